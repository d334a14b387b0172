import PyProof.Rows.All
import Wide.All
import OpenK.AllK
import Wide.FinOn
import PySem.Challenge.RW_openrings_k40_rings_told
import PyProof.EqAt
import PyProof.EqKinds
import PyProof.TupleCall
import KE.KFromBytes
import KE.KSuper
import KE.KExcSuper
import HandS.Base
import HandS.Call
import HandS.Exc
import HandS.ExcInit
import HandS.ForExc
import HandS.ExcField
import HandS.ExcIs
import HandS.IsInst
import KE.KExcIs
import PyProof.P3Statements
import PyProof.Lay0
import HandS.ForMost
import HandS.Wide
import HandS.Style
import HandS.Zip
import HandS.TupSets
import HandS.TupAny
import HandS.Conv
import HandS.Lambda
import HandS.EndTab
set_option Elab.async false
set_option linter.all false
set_option maxRecDepth 100000
set_option maxHeartbeats 4000000
/-! ## An exception class over a class of one's own over ValueError: super().__init__('..'), then self.f = f for each of its fields -/
namespace PySem
namespace RingX
open PySem.W PySem.Calls PyProof.Rows PySem.HandSPX

structure SetP where
  (p1 p2 p3 p4 : Pos)
structure SupP where
  (q0 q1 q2 q3 q4 q5 : Pos)
def exArgs (ps : Pos) (fs : List (Str × Pos)) : Arguments := { posonlyargs := [], args := { arg := "self", annotation := none, pos := ps } :: fs.map (fun f => { arg := f.1, annotation := none, pos := f.2 }), vararg := none, kwonlyargs := [], kw_defaults := [], kwarg := none, defaults := [] }
def exSup (t : Str) (q : SupP) : Stmt := .Expr (.Call (.Attribute (.Call (.Name "super" q.q0) [] [] q.q1) "__init__" q.q2) [.Constant (.str t) 0 q.q3] [] q.q4) q.q5
def exSet (f : Str × SetP) : Stmt := .Assign [.Attribute (.Name "self" f.2.p1) f.1 f.2.p2] (.Name f.1 f.2.p3) f.2.p4
def exScope (fs : List Str) : Scope := { kind := .function, names := ("self", NameKind.local) :: ((fs.map fun f => (f, NameKind.local)) ++ [(("__class__" : Str), NameKind.free), (("super" : Str), NameKind.globalImplicit)]), isGenerator := false, isCoroutine := false, more := [] }
/-- what is asked of the fields' names -/
def namesOk (fs : List Str) : Bool :=
  (exScope fs).names.lookup ("super" : Str) == some NameKind.globalImplicit && (exScope fs).names.lookup ("__class__" : Str) == some NameKind.free && (exScope fs).names.lookup ("self" : Str) == some NameKind.local &&
    decide fs.Nodup && fs.all fun f => (exScope fs).names.lookup f == some NameKind.local && !(f == ("__debug__" : Str)) && !(f == ("self" : Str))

/-- what the written part says of the class at C, and of its __init__ at fI -/
structure ExTxt (prog : Program) (K : Frag) (mg : Str → Option Value) (C fI : Addr) (nm : Str) (fs : List Str) : Prop where
  gC : mg nm = some (.ref C)
  cls : ∃ cn q N bs bm sn sub ab col dd k0 k1 k2 k3 k5, K.lookup C = some (excClassObj cn q C N bs bm true sn sub ab col dd k0 k1 k2 k3 k5 "ValueError.__new__") ∧ refsVE bm = true
  sa : findIn K (.ref C) "__setattr__" = some (some (.builtin "object.__setattr__"))
  ga : findIn K (.ref C) "__getattribute__" = some (some (.builtin "BaseException.__getattribute__"))
  gg : findIn K (.ref C) "__getattr__" = some none
  noN : ∀ f ∈ fs, findIn K (.ref C) f = some none
  iC : findIn K (.ref C) "__init__" = some (some (.ref fI))
  tC : typeIn K (.ref fI) = some (.type "function")
  kC : keepIn K (.ref C) = true
  exC : subIn K (.ref C) (.type "BaseException") = some true
  tyC : typeIn K (.ref C) = some (.type "type")
  hdC : hasDictIn K C = true
  op : nsIn K cStatics "thirdparty.any" = some none
  sI : ks_superIn K C C "__init__" = some (some (.builtin "ValueError.__init__"))
  sV : subIn K (.ref C) (.type "ValueError") = some true
  mC : mroIn K C (.ref C) = some true
  sup : mg "super" = none
  htop : (prog.main.scope.names.lookup ("super" : Str)).isSome = false
  names : namesOk fs = true
  len : fs.length ≤ 500
  fn : ∃ (oc : Value) (od : Option Addr) (kV doc pm : Value) (an : Option Addr) (cda : Addr) (ct : Value) (cc : Addr) (osl : Array (Option Value)) (ps : Pos) (fp : List (Str × Pos)) (t : Str) (q : SupP) (sp : List (Str × SetP)) (qual : Str)
      (ccl cl : Value) (cdd cld : Option Addr) (ccs csl : Array (Option Value)) (vs : Array Value) (file : Str) (tf : Tok),
    K.lookup fI = some ⟨oc, od, .func (ksFn "__init__" qual (exArgs ps fp) (exSup t q :: sp.map exSet) (exScope fs) .none kV doc pm an (.ref cda) ct cc), osl⟩ ∧ codeIn K (.ref cda) qual = true ∧ sp.map (·.1) = fs ∧ (q.q2.endLine == q.q4.line) = true ∧
      K.lookup cda = some ⟨ccl, cdd, .fields vs, ccs⟩ ∧ vs[2]? = some (.str file tf) ∧ ((prog.main.file : Str) == file) = true ∧ K.lookup cc = some ⟨cl, cld, .cell (some (.ref C)), csl⟩ ∧
      ∀ (s : Shared) (x : Value) (us : List Value), us.length = fs.length → BindsTo s (ksFn "__init__" qual (exArgs ps fp) (exSup t q :: sp.map exSet) (exScope fs) .none kV doc pm an (.ref cda) ct cc) ⟨x :: us, []⟩ (("self", x) :: fs.zip us)

theorem one_size (v : Value) : [v].length ≤ sizeLine := by
  rw [sizeLine_eq]
  exact (by decide : 1 ≤ 16777216)

section
variable {prog : Program} {w : World} {M : Model} {A : Around} {E : Value → Shared → Prop} {h : Heap} {g : Array GenState} {d : Drawn} {t : Nat} {os : OsState} {K : Frag} {x C D u : Addr}

/-- super() in such a def -/
theorem sup_node {body : List Stmt} {q : Str} {scope : Scope} {p0 p1 : Pos} {attr : Str} {whole : Sem Value} {f cc cda L : Addr} {fd : FuncData} {ar : Arg} {vs : Array Value} {file : Str} {tf : Tok} {oc ccl cl : Value} {od cdd cld : Option Addr} {osl ccs csl : Array (Option Value)}
    {cdD : ClassData} {m mg mb : Str → Option Value} {ox : Obj} {odx : Option Obj} {Q : Value → Shared → Prop}
    (X : K.In h) (hL : h.Ns L m) (hg : h.Ns mainGlobals mg) (hb : h.Ns builtinsNs mb) (hmb : mb "super" = some (.type "super"))
    (hf : K.lookup f = some ⟨oc, od, .func fd, osl⟩) (hp : (fd.params.posonlyargs ++ fd.params.args).head? = some ar) (hv : m ar.arg = some (.ref x)) (I : InstAt h x ox C odx)
    (hcode : K.lookup cda = some ⟨ccl, cdd, .fields vs, ccs⟩) (hvs : vs[2]? = some (.str file tf)) (hfile : ((prog.main.file : Str) == file) = true)
    (hcell : K.lookup cc = some ⟨cl, cld, .cell (some (.ref D)), csl⟩) (hD : clsIn K D = some cdD) (hsub : mroIn K C (.ref D) = some true) (hsuper : mg "super" = none)
    (hat : (attr == ("__class__" : Str)) = false) (hks : scope.names.lookup ("super" : Str) = some .globalImplicit) (hkc : scope.names.lookup ("__class__" : Str) = some .free) (hka : scope.names.lookup ar.arg = some .local) (hk : scope.kind = .function)
    (htop : (prog.main.scope.names.lookup ("super" : Str)).isSome = false)
    (hq : ∀ h', h'.get? h.objs.size = some (ks_superObj D x C) → (∀ b o, h.get? b = some o → h'.get? b = some o) → Q (.ref h.objs.size) ⟨h', g, d, t, os⟩) :
    _root_.PySem.wpAt (model prog w) A (.func body (ksEnv q scope L f (.ref cda) cc)) (attributeBase (.Call (.Name "super" p0) [] [] p1) attr (ksEnv q scope L f (.ref cda) cc) whole) Q E ⟨h, g, d, t, os⟩ := by
  obtain ⟨oD, hD1, hD2⟩ : ∃ oD, h.get? D = some oD ∧ oD.data = .cls cdD := by
    unfold clsIn at hD
    split at hD
    · rename_i c d cd' sl ho
      cases hD
      exact ⟨_, X _ _ ho, rfl⟩
    · cases hD
  refine ks_wpAt_super_base (env := ksEnv q scope L f (.ref cda) cc) hks hkc hat rfl (X _ _ hf) rfl hp rfl (X _ _ hcode) rfl hvs hfile htop ?_
  refine ks_loadName_global hk hks (loadGlobal_builtin (env := ksEnv q scope L f (.ref cda) cc) hg hsuper hb hmb ⟨rfl, ?_⟩)
  refine wpAny_loadName_free hk hkc rfl ⟨_, X _ _ hcell, rfl⟩ ?_
  refine wpAny_loadName_local hk hka hL hv ?_
  refine ks_wpAny_isType_cls hD1 hD2 ⟨rfl, ?_⟩
  refine ks_wpAny_call_super hD1 hD2 I.at_ I.cls (fun c e => ?_) (looks_mroIn X hsub) (fun h' e k => ?_)
  · have := I.no
    unfold notCls at this
    rw [e] at this
    exact Bool.noConfusion this
  · exact hq h' e k

/-- ValueError.__init__ bound to e, called -/
theorem call_mw {nm q : Str} {N : Addr} {bs bm : List Value} {hdct : Bool} {sn : List Str} {sub : List Value} {ab : Bool} {col : Option Bool} {dd : Option Addr} {k0 k1 k2 k3 k5 : Option Value} {e t0 : Addr} {rest : List Value} {Q : Value → Shared → Prop}
    (hC : h.get? C = some (excClassObj nm q C N bs bm hdct sn sub ab col dd k0 k1 k2 k3 k5 "ValueError.__new__")) (he : h.get? e = some (HandSPX.excO C t0)) (hu : h.get? u = some (kxs_mw "ValueError.__init__" e)) (hrest : rest.length ≤ sizeLine)
    (hq : ∀ h' t1, (∀ b o, b ≠ e → h.get? b = some o → h'.get? b = some o) → h'.get? e = some (HandSPX.excO C t1) → Q .none ⟨h', g, d, t, os⟩) :
    wpAny (model prog w) A (call (.ref u) rest) Q E ⟨h, g, d, t, os⟩ := by
  refine wpAny_call (codeAny_of_tree ?_)
  show wpAny _ A.in1 (callAny (.ref u) ⟨rest, []⟩) _ _ _
  simp only [callAny]
  refine wpAny_bind (wpAny_load hu ?_)
  simp only [kxs_mw, show (Value.type "method-wrapper" == Value.type "method" || Value.type "method-wrapper" == Value.type "builtin_function_or_method" || Value.type "method-wrapper" == Value.type "method-wrapper") = true by decide, if_true]
  refine W.KFB.if_so (by decide) ?_
  refine wpAny_bind (check_bound_init F.excBase_ValueError.toExcCallFacts hC he rfl ?_)
  refine wpAny_bind (wpAny_pure (wpAny_pure ?_))
  refine ⟨Code.quiet_builtin _ (by decide +kernel), codeAny_builtin F.excBase_ValueError.initEntry ?_⟩
  rw [Around.under_plainId F.excBase_ValueError.init.plain _]
  wp_walk
  refine hq _ h.objs.size (fun b o hb ho => ?_) ?_
  · rw [Heap.get?_update_other _ _ (Ne.symm hb)]
    exact Heap.get?_push_of_some _ ho
  · rw [Heap.get?_update_self _ (Heap.get?_push_of_some _ he) rfl]
    rfl
theorem callWith_mw {s : Shared} {pos : Pos} {first : List Value} {env : Env} {e : Expr} {rest : List Expr} {Q : Value → Shared → Prop}
    (h : wpAny M A (spliced (backTo pos (starEach (e :: rest) env))) (fun vs s₁ => s₁.heap.get? u = some (kxs_mw "ValueError.__init__" x) ∧ wpAny M A (call (.ref u) (first ++ vs)) Q E s₁) E s)
    (he : starEach (e :: rest) env = (false, eval e env) :: starEach rest env := by rfl) (hplain : (backTo pos (starEach rest env)).any (·.1) = false := by rfl) :
    wpAny M A (callWith pos (.ref u) first (backTo pos (starEach (e :: rest) env)) []) Q E s := by
  rw [he] at h ⊢
  refine kxs_callWith (i := "ValueError.__init__") (x := x) (by show (false || (backTo pos (starEach rest env)).any (·.1)) = false; rw [hplain]; rfl) ?_
  exact evalArgs_plain h
/-- a method of something, called with one written constant, in a known activation -/
theorem at_meth {c : Code} {s : Shared} {env : Env} {o : Expr} {name : Str} {apos pos p3 : Pos} {k : Const} {j : Nat} {Q : Value → Shared → Prop} (hline : (apos.endLine == pos.line) = true)
    (h : ∀ pl, _root_.PySem.wpAt M A c (attributeBase o name env (eval o env)) (fun ov s₁ => wpAny M A (getMethod ov name pl) (fun fx s₂ => wpAny M A (callWith pos fx.1 fx.2 (backTo pos (starEach [.Constant k j p3] env)) []) Q E s₂) E s₁) E s) :
    _root_.PySem.wpAt M A c (eval (.Call (.Attribute o name apos) [.Constant k j p3] [] pos) env) Q E s := by
  rw [arm_eval_Call]
  refine wpAt_bind (_root_.PySem.wpAt_mono (h (do return (← importBound o env).getD true)) (fun ov s₁ h₁ => wpAt_of_wpAny (wpAny_bind (wpAny_standAt ?_))) fun _ _ y => y)
  have hform : methodCallForm (([.Constant k j p3] : List Expr).length + ([] : List Keyword).length) (backTo pos (starEach [.Constant k j p3] env)) (backToKw pos (keywordEach [] env)) = true := rfl
  have hpos : methodCallPos true o env apos pos = pure pos := by unfold methodCallPos; simp [hline]
  unfold methodCall calleeOf
  rw [hform]
  simp only [if_true]
  exact wpAny_bind (wpAny_holding (wpAny_mono h₁ (fun fx s₂ h₂ => wpAny_bind (wpAny_of_eq hpos h₂)) fun _ _ y => y))
end
end RingX
end PySem

namespace PySem
namespace RingX
open PySem.W PySem.Calls PyProof.Rows PySem.HandSPX

/-- the fields' map behind the stores of fs, in their order -/
def fmap : List Str → List Value → (Str → Option Value) → Str → Option Value
  | f :: fs, v :: vs, m => fmap fs vs (fun y => if y = f then some v else m y)
  | _, _, m => m

abbrev excD (C t : Addr) (od : Option Addr) : Obj := { cls := .ref C, dict := od, data := .fields #[.ref t, .none, .none, .none, .bool false, .none] }

section
variable {prog : Program} {w : World} {A : Around} {E : Value → Shared → Prop} {R : Result → Shared → Prop} {K : Frag} {mg mb : Str → Option Value} {C fI L x t0 : Addr}

theorem exc_ld {M : Model} {s : Shared} {name : Str} {scope : Scope} {a cc : Addr} {cd : Value} {m : Str → Option Value} {y : Str} {pos : Pos} {v : Value} {Q : Value → Shared → Prop} (hn : s.heap.Ns L m) (hv : m y = some v) (h : Q v s)
    (hk : scope.kind = .function) (hl : scope.names.lookup y = some .local) (hd : (y == ("__debug__" : Str)) = false) : wpAny M A (eval (.Name y pos) (ksEnv name scope L a cd cc)) Q E s :=
  wpAny_Name (wpAny_loadName_local (env := ksEnv name scope L a cd cc) hk hl hn hv h) hd

/-- what is asked of a class whose instances get fields -/
structure SetC (K : Frag) (C : Addr) : Prop where
  sa : findIn K (.ref C) "__setattr__" = some (some (.builtin "object.__setattr__"))
  cl : ∃ cd, clsIn K C = some cd ∧ refsVE cd.mro = true ∧ cd.hasDict = true

/-- self.f = f, for the fields behind the first -/
theorem sets_on (T : SetC K C) {q : Str} {sc : Scope} {a cc dx : Addr} {cd : Value} {m : Str → Option Value} {Q : Flow → Shared → Prop} (hk : sc.kind = .function) (hself : sc.names.lookup ("self" : Str) = some .local) (hmx : m "self" = some (Value.ref x)) :
    ∀ (sp : List (Str × SetP)) (us : List Value) (m0 : Str → Option Value) (nl : List Str) (s : Shared), us.length = sp.length → nl.length + sp.length ≤ 900 →
      (∀ f ∈ sp, sc.names.lookup f.1 = some .local ∧ (f.1 == ("__debug__" : Str)) = false ∧ findIn K (.ref C) f.1 = some none) → (∀ p ∈ (sp.map (·.1)).zip us, m p.1 = some p.2) →
      K.In s.heap → s.heap.Ns L m → L ≠ dx → s.heap.get? x = some (excD C t0 (some dx)) → x ≠ dx → s.heap.Ns1 dx m0 → Within m0 nl →
      (∀ h' tk, (∀ b o, b ≠ dx → s.heap.get? b = some o → h'.get? b = some o) → h'.Ns1 dx (fmap (sp.map (·.1)) us m0) → Q .next { s with heap := h', toks := tk }) →
      (∀ b o, K.lookup b = some o → b ≠ dx) →
      wpAny (model prog w) A (execs (sp.map exSet) (ksEnv q sc L a cd cc)) Q E s := by
  intro sp
  induction sp with
  | nil =>
    intro us m0 nl s hl _ _ _ X hL hLd hx hxd hd hw hq _
    cases us with
    | cons _ _ => cases hl
    | nil =>
      refine wpAny_execs_nil ?_
      obtain ⟨h, g, d, t, os⟩ := s
      exact hq h t (fun _ _ _ e => e) hd
  | cons f sp ih =>
    intro us m0 nl s hl hz hf hm X hL hLd hx hxd hd hw hq hKd
    cases us with
    | nil => cases hl
    | cons v us =>
      obtain ⟨cl, hcl, hmro, hdict⟩ := T.cl
      obtain ⟨hloc, hdbg, hno⟩ := hf f List.mem_cons_self
      obtain ⟨oD, _, _, hoD, _, _⟩ := hd.count hw
      rw [List.map_cons]
      refine wpAny_execs_cons (plainObj_wpAny_Assign_Attribute ?_)
      refine exc_ld (L := L) hL (hm (f.1, v) List.mem_cons_self) (exc_ld (L := L) hL hmx ?_ hk hself (by decide)) hk hloc hdbg
      refine set_plain X (ox := excD C t0 (some dx)) (od := some oD) ⟨hx, rfl, rfl, hoD⟩ T.sa ?_
      obtain ⟨h, g, d, t, os⟩ := s
      refine PySem.OEX.osa_old X hx hd hw (by have := hz; simp only [List.length_cons] at this; omega) hcl hmro hdict hno (fun h' tk' k hn => ?_)
      refine ih us _ (f.1 :: nl) ⟨h', g, d, tk', os⟩ (by simpa using hl) (by have := hz; simp only [List.length_cons] at this ⊢; omega) (fun y hy => hf y (List.mem_cons_of_mem _ hy)) (fun p hp => hm p (List.mem_cons_of_mem _ hp))
        (fun b o e => k b o (hKd b o e) (X b o e)) ?_ hLd (k _ _ hxd hx) hxd hn (Within.cons f.1 v hw) (fun h'' tk'' k2 hn2 => hq h'' tk'' (fun b o hb e => k2 b o hb (k b o hb e)) hn2) hKd
      obtain ⟨oL, es, ep, hoL, r⟩ := hL
      exact ⟨oL, es, ep, k _ _ hLd hoL, r⟩

theorem lookup_mem {α : Type} : ∀ {l : List (Str × α)} {p : Str × α}, (l.map (·.1)).Nodup → p ∈ l → l.lookup p.1 = some p.2
  | [], _, _, h => nomatch h
  | q :: l, p, hn, h => by
    obtain ⟨n1, n2⟩ := List.nodup_cons.mp (show (q.1 :: l.map (·.1)).Nodup from hn)
    rcases List.mem_cons.mp h with e | e
    · subst e
      rw [show p :: l = (p.1, p.2) :: l from rfl, List.lookup_cons, beq_self_eq_true]
    · have ne : (p.1 == q.1) = false := by
        refine beq_eq_false_iff_ne.mpr fun z => n1 ?_
        rw [← z]
        exact List.mem_map_of_mem e
      rw [show q :: l = (q.1, q.2) :: l from rfl, List.lookup_cons, ne]
      exact lookup_mem n2 e
theorem zip_fst {α β : Type} : ∀ {l : List α} {r : List β}, r.length = l.length → (l.zip r).map (·.1) = l
  | [], _, _ => rfl
  | _ :: _, [], h => nomatch h
  | a :: l, b :: r, h => by
    show a :: (l.zip r).map (·.1) = a :: l
    rw [zip_fst (by simpa using h)]

/-- what __init__ leaves of a fresh exception at x -/
structure InitEnd (h h' : Heap) (x C : Addr) (od : Option Addr) (fs : List Str) (us : List Value) : Prop where
  keep : ∀ b o, b ≠ x → h.get? b = some o → h'.get? b = some o
  obj : ∃ t1, h'.get? x = some (excD C t1 od)
  dict : (fs = [] ∧ od = none) ∨ fs ≠ [] ∧ ∃ dx, od = some dx ∧ h.objs.size ≤ dx ∧ dx ≠ x ∧ h'.Ns1 dx (fmap fs us fun _ => none)

theorem ex_init {nm : Str} {fs : List Str} {s : Shared} {us : List Value} (T : ExTxt prog K mg C fI nm fs) (X : K.In s.heap) (hlim : s.heap.NoLimit) (G : s.heap.Ns mainGlobals mg) (hB : s.heap.Ns builtinsNs mb) (hmb : ∀ y : Str, y ≠ "__name__" → mb y = bootBuiltins y)
    (hx : s.heap.get? x = some (excO C t0)) (hnx : K.lookup x = none) (hroom : A.depth < recursionLimit) (hl : us.length = fs.length)
    (hq : ∀ h' tk od, InitEnd s.heap h' x C od fs us → R (.ok (.ret .none)) { s with heap := h', toks := tk }) :
    codeAny (model prog w) A (.call (.ref fI) ⟨.ref x :: us, []⟩) R s := by
  obtain ⟨oc, od, kV, doc, pm, an, cda, ct, cc, osl, ps, fp, txt, q, sp, qual, ccl, cl, cdd, cld, ccs, csl, vs, file, tf, ho, hcd, hsp, hline, hcode, hvs, hfile, hcell, hbind⟩ := T.fn
  obtain ⟨cn, cq, N, bs, bm, sn, sub, ab, col, dd, k0, k1, k2, k3, k5, hC, hbm⟩ := T.cls
  have hcl : clsIn K C = some { name := cn, bases := bs, mro := .ref C :: bm, ns := N, qualname := cq, hasDict := true, slotNames := sn, subclasses := sub, abstract := ab, collection := col, hasDel := false } := by unfold clsIn; rw [hC] <;> rfl
  have hnames := T.names
  unfold namesOk at hnames
  simp only [Bool.and_eq_true, beq_iff_eq, List.all_eq_true, Bool.not_eq_true', decide_eq_true_eq] at hnames
  obtain ⟨⟨⟨⟨nS, nC⟩, nX⟩, nD⟩, nF⟩ := hnames
  have hlocF : ∀ y ∈ (("self" : Str), Value.ref x) :: fs.zip us, (exScope fs).names.lookup y.1 = some .local := by
    intro y hy
    rcases List.mem_cons.mp hy with e | e
    · rw [e]; exact nX
    · exact (nF y.1 (List.of_mem_zip e).1).1.1
  have hcellF : ∀ y ∈ (exScope fs).names, y.2 ≠ .cell := by
    intro y hy
    unfold exScope at hy
    simp only [List.mem_cons, List.mem_append, List.mem_map, List.not_mem_nil, or_false] at hy
    rcases hy with e | ⟨f, _, e⟩ | e | e <;> (subst e; intro z; cases z)
  refine ks_codeAny_call_defAt (fd := ksFn "__init__" qual (exArgs ps fp) (exSup txt q :: sp.map exSet) (exScope fs) .none kV doc pm an (.ref cda) ct cc) (body := exSup txt q :: sp.map exSet) (binds := ("self", .ref x) :: fs.zip us)
    hroom (X _ _ ho) rfl hlim (codeRec_of X hcd) rfl (hbind s (.ref x) us hl) hcellF hlocF (fun h₁ hns hk₁ => ?_) rfl rfl rfl
  have hxs := Heap.lt_size hx
  have X₁ : K.In h₁ := X.keeps hk₁
  have hx₁ := hk₁ _ _ hx
  have nsk : ∀ {b : Addr} {m : Str → Option Value}, s.heap.Ns b m → h₁.Ns b m := fun {b m} ⟨o, es, ep, e, r⟩ => ⟨o, es, ep, hk₁ _ _ e, r⟩
  have hall : ∀ p ∈ (("self" : Str), Value.ref x) :: fs.zip us, (fun y => ((("self" : Str), Value.ref x) :: fs.zip us).reverse.lookup y) p.1 = some p.2 := fun p hp => by
    refine lookup_mem ?_ (List.mem_reverse.mpr hp)
    rw [List.map_reverse]
    refine List.pairwise_reverse.mpr (List.Pairwise.imp (fun z => Ne.symm z) ?_)
    rw [List.map_cons, zip_fst hl]
    refine List.nodup_cons.mpr ⟨fun z => ?_, nD⟩
    have := (nF _ z).2
    simp at this
  have hmself : (fun y => ((("self" : Str), Value.ref x) :: fs.zip us).reverse.lookup y) ("self" : Str) = some (Value.ref x) := hall (("self" : Str), Value.ref x) List.mem_cons_self
  have hmf : ∀ p ∈ fs.zip us, (fun y => ((("self" : Str), Value.ref x) :: fs.zip us).reverse.lookup y) p.1 = some p.2 := fun p hp => hall p (List.mem_cons_of_mem _ hp)
  have I₁ : InstAt h₁ x (excO C t0) C none := ⟨hx₁, rfl, rfl, trivial⟩
  have hLx : s.heap.objs.size ≠ x := Nat.ne_of_gt hxs
  refine ks_wpAt_execs_cons ?_
  show _root_.PySem.wpAt _ _ _ (exec (exSup txt q) _) _ _ _
  unfold exSup
  refine ks_wpAt_Expr_any (at_meth hline fun pl => ?_)
  refine sup_node (C := C) (x := x) (m := fun y => ((("self" : Str), Value.ref x) :: fs.zip us).reverse.lookup y) X₁ hns (nsk G) (nsk hB) ((hmb _ (by decide)).trans (by first | rfl | kernel_rfl)) ho rfl hmself I₁ hcode hvs hfile hcell hcl T.mC T.sup (by decide) nS nC nX rfl T.htop (fun h₂ e₂ k₂ => ?_)
  have X₂ : K.In h₂ := X₁.keeps k₂
  have I₂ : InstAt h₂ x (excO C t0) C none := ⟨k₂ _ _ hx₁, rfl, rfl, trivial⟩
  have hsI := T.sI
  unfold ks_superIn at hsI
  rw [hcl, Option.bind_some] at hsI
  refine kxs_getMethod kxs_ValueError e₂ (looks_opaque X₂ T.op) (l₀ := .ref C :: bm) (fun A Q E s k q => wpAny_bind ((looks_clsIn X₂ hcl) A _ E s k (wpAny_pure q))) rfl X₂ hsI (I₂.type.andThen (looks_subIn X₂ T.sV)) (ks_ne X₂ I₂ hcl) (by decide) ?_
  dsimp only
  have k₃ : ∀ b o, h₂.get? b = some o → (h₂.push (kxs_mw "ValueError.__init__" x)).get? b = some o := fun b o e => Heap.get?_push_of_some _ e
  refine callWith_mw (x := x) ?_
  show wpAny _ _ (spliced [(false, eval (.Constant (.str txt) 0 q.q3) _)]) _ _ _
  refine spliced_cons (Calls.Constant_str (spliced_nil ⟨Heap.get?_push_at rfl rfl, ?_⟩))
  refine call_mw (k₃ _ _ (X₂ _ _ hC)) (k₃ _ _ (k₂ _ _ hx₁)) (Heap.get?_push_at rfl rfl) (one_size _) (fun h₄ t1 k₄ hx₄ => ?_)
  -- the fields
  have kk : ∀ b o, b ≠ x → h₁.get? b = some o → h₄.get? b = some o := fun b o hb e => k₄ b o hb (k₃ _ _ (k₂ _ _ e))
  have X₄ : K.In h₄ := fun b o e => kk b o (fun z => by rw [z, hnx] at e; cases e) (X₁ b o e)
  have hns₄ : h₄.Ns s.heap.objs.size (fun y => ((("self" : Str), Value.ref x) :: fs.zip us).reverse.lookup y) := by
    obtain ⟨oL, es, ep, hoL, r⟩ := hns
    exact ⟨oL, es, ep, kk _ _ hLx hoL, r⟩
  have old : ∀ b o, b ≠ x → s.heap.get? b = some o → h₄.get? b = some o := fun b o hb e => kk b o hb (hk₁ b o e)
  refine wpAt_of_wpAny ?_
  have SC : SetC K C := ⟨T.sa, _, hcl, hbm, rfl⟩
  cases sp with
  | nil =>
    refine wpAny_execs_nil (hq h₄ _ none ⟨old, ⟨t1, hx₄⟩, .inl ⟨hsp.symm, rfl⟩⟩)
  | cons f sp =>
    subst hsp
    cases us with
    | nil => cases hl
    | cons v us =>
      obtain ⟨hloc, hdbg⟩ := (nF f.1 (by simp)).1
      rw [List.map_cons]
      refine wpAny_execs_cons (plainObj_wpAny_Assign_Attribute ?_)
      refine exc_ld hns₄ (hmf (f.1, v) (by simp)) (exc_ld hns₄ hmself ?_ rfl nX (by decide)) rfl hloc hdbg
      refine set_plain X₄ (ox := excO C t1) (od := none) ⟨hx₄, rfl, rfl, trivial⟩ T.sa ?_
      refine exc_osa X₄ hx₄ hcl (show refsVE (.ref C :: bm) = true from hbm) rfl (T.noN f.1 (by simp)) (fun h₅ tk₅ dx k₅ dn dne hx₅ hn₅ => ?_)
      have hsz : s.heap.objs.size < h₄.objs.size := hns₄.lt
      refine sets_on SC (x := x) (t0 := t1) (dx := dx) (m := fun y => ((("self" : Str), Value.ref x) :: ((f :: sp).map (·.1)).zip (v :: us)).reverse.lookup y) rfl nX hmself sp us _ [f.1] ⟨h₅, _, _, tk₅, _⟩ (by simpa using hl) (by have := T.len; simp only [List.length_cons, List.length_map, List.length_nil] at this ⊢; omega)
        (fun y hy => ⟨(nF y.1 (by simp; exact .inr ⟨_, hy⟩)).1.1, (nF y.1 (by simp; exact .inr ⟨_, hy⟩)).1.2, T.noN y.1 (by simp; exact .inr ⟨_, hy⟩)⟩) (fun p hp => hmf p (by simp only [List.map_cons, List.zip_cons_cons]; exact List.mem_cons_of_mem _ hp))
        (fun b o e => k₅ b o (fun z => by rw [z, hnx] at e; cases e) (X₄ b o e)) ?_ (fun z => ?_) hx₅ (Ne.symm dne) hn₅ (Within.cons f.1 v Within.nil) (fun h₆ tk₆ k₆ hn₆ => ?_) (fun b o e => ?_)
      · obtain ⟨oL, es, ep, hoL, r⟩ := hns₄
        exact ⟨oL, es, ep, k₅ _ _ hLx hoL, r⟩
      · have dn' : h₄.objs.size ≤ dx := dn
        have z' : s.heap.objs.size = dx := z
        omega
      · have dn' : h₄.objs.size ≤ dx := dn
        refine hq h₆ tk₆ (some dx) ⟨fun b o hb e => k₆ b o ?_ (k₅ b o hb (old b o hb e)), ⟨t1, k₆ x _ (Ne.symm dne) hx₅⟩, .inr ⟨by simp, dx, rfl, by omega, dne, hn₆⟩⟩
        have hb1 : b < s.heap.objs.size := Heap.lt_size e
        exact Nat.ne_of_lt (Nat.lt_of_lt_of_le (Nat.lt_trans hb1 hsz) dn')
      · exact Nat.ne_of_lt (Nat.lt_of_lt_of_le (Heap.lt_size (X₄ b o e)) dn)

/-- a made exception -/
structure OwnMade (h h' : Heap) (e C : Addr) (od : Option Addr) (fs : List Str) (us : List Value) : Prop where
  keep : ∀ b o, h.get? b = some o → h'.get? b = some o
  new : h.objs.size ≤ e
  obj : ∃ t1, h'.get? e = some (excD C t1 od)
  dict : (fs = [] ∧ od = none) ∨ fs ≠ [] ∧ ∃ dx, od = some dx ∧ h.objs.size ≤ dx ∧ dx ≠ e ∧ h'.Ns1 dx (fmap fs us fun _ => none)

theorem ex_made {nm : Str} {fs : List Str} {s : Shared} {us : List Value} (T : ExTxt prog K mg C fI nm fs) (X : K.In s.heap) (hlim : s.heap.NoLimit) (G : s.heap.Ns mainGlobals mg) (hB : s.heap.Ns builtinsNs mb) (hmb : ∀ y : Str, y ≠ "__name__" → mb y = bootBuiltins y)
    (hroom : A.depth + 1 < recursionLimit) (hl : us.length = fs.length)
    (hq : ∀ h' tk e od, OwnMade s.heap h' e C od fs us → R (.ok (.ret (.ref e))) { s with heap := h', toks := tk }) :
    codeAny (model prog w) A (.call (.ref C) ⟨us, []⟩) R s := by
  obtain ⟨cn, cq, N, bs, bm, sn, sub, ab, col, dd, k0, k1, k2, k3, k5, hC, hbm⟩ := T.cls
  obtain ⟨hp, g, dr, tk, os⟩ := s
  have k : ∀ b o, hp.get? b = some o → ((hp.push (kdv_tup us)).push (excO C hp.objs.size)).get? b = some o := fun b o e => Heap.get?_push_of_some _ (Heap.get?_push_of_some _ e)
  have hget : ((hp.push (kdv_tup us)).push (excO C hp.objs.size)).get? (hp.objs.size + 1) = some (excO C hp.objs.size) := by heap_get
  have nsk : ∀ {b : Addr} {m : Str → Option Value}, hp.Ns b m → ((hp.push (kdv_tup us)).push (excO C hp.objs.size)).Ns b m := fun {b m} ⟨o, es, ep, e, r⟩ => ⟨o, es, ep, k _ _ e, r⟩
  have hnx : K.lookup (hp.objs.size + 1) = none := by
    cases e : K.lookup (hp.objs.size + 1) with
    | none => rfl
    | some o =>
      have z : hp.get? (hp.objs.size + 1) = some o := X _ _ e
      exact absurd (Nat.lt_of_succ_lt (Heap.lt_size z)) (Nat.lt_irrefl _)
  have hus : us.length ≤ sizeLine := by
    have := T.len
    rw [sizeLine_eq]
    omega
  refine call_own F.excBase_ValueError (fun X => refsVE_contains X bm hbm) (X _ _ hC) (looks_findIn X T.iC) (fun self => bind_fn X self T.tC) hus ?_
  refine ex_init (s := ⟨(hp.push (kdv_tup us)).push (excO C hp.objs.size), g, dr, tk, os⟩) T (X.keeps k) (hlim.keeps k) (nsk G) (nsk hB) hmb hget hnx ?_ hl fun h' tk' od I => ?_
  · show A.depth + 1 < recursionLimit
    exact hroom
  · have old : ∀ b o, hp.get? b = some o → h'.get? b = some o := fun b o e => I.keep b o (Nat.ne_of_lt (Nat.lt_succ_of_lt (Heap.lt_size e))) (k b o e)
    refine ⟨rfl, hq h' tk' (hp.objs.size + 1) od ⟨old, Nat.le_succ _, I.obj, ?_⟩⟩
    rcases I.dict with z | ⟨e0, dx, e1, e2, e3, e4⟩
    · exact .inl z
    · have z : hp.objs.size + 1 + 1 ≤ dx := by
        have q := e2
        rw [Heap.size_push, Heap.size_push] at q
        exact q
      exact .inr ⟨e0, dx, e1, Nat.le_trans (Nat.le_trans (Nat.le_succ _) (Nat.le_succ _)) z, e3, e4⟩
end
end RingX
end PySem

namespace L2
open PySem PySem.Spec PyProof.Rows PySem.RingX

/-! ### the fields of an exception -/
def xdl (fs : List Str) (vs : List V) : List (Str × V) := (fs.zip vs).reverse
theorem relO_fmap : ∀ (fs : List Str) (vs : List V) (us : List Value) (l0 : List (Str × V)) (m0 : Str → Option Value), vs.length = fs.length → Vals vs us → (∀ f, RelO (l0.lookup f) (m0 f)) → ∀ f, RelO (((fs.zip vs).reverse ++ l0).lookup f) (fmap fs us m0 f) := by
  intro fs
  induction fs with
  | nil =>
    intro vs us l0 m0 hl r h f
    cases r with
    | nil => exact h f
    | cons _ _ => cases hl
  | cons g fs ih =>
    intro vs us l0 m0 hl r h f
    cases r with
    | nil => cases hl
    | @cons v u vs us rv r =>
      have e : ((g :: fs).zip (v :: vs)).reverse ++ l0 = (fs.zip vs).reverse ++ ((g, v) :: l0) := by simp
      rw [e]
      exact ih vs us ((g, v) :: l0) _ (by simpa using hl) r (fun y => relO_put rv h y) f

section
variable {X : Cx} {C fI : Addr} {nm : Str} {fs : List Str}
/-- nm(a, ..), a class of exceptions with the fields fs -/
def tMkX (C : Addr) (fs : List Str) (ta : TA) : St → Hp → XK → Prop := fun σ H Q => ta σ H fun vs H1 => vs.length = fs.length ∧ (fs = [] → Q (.ref C) none H1) ∧ (fs ≠ [] → ∀ d, H1 d = none → Q (.ref C) (some d) (upd H1 d (.xd (xdl fs vs))))
theorem mkx_core {pins : List (Addr × Obj)} {σ : St} {H1 : Hp} {s1 : Shared} {vs : List V} {us : List Value} {Q : XK} {k : Nat} (T : ExTxt X.prog X.K X.mg C fI nm fs) (hr : Room k X.A) (I1 : Inv X pins σ H1 s1) (r1 : Vals vs us)
    (hq : vs.length = fs.length ∧ (fs = [] → Q (.ref C) none H1) ∧ (fs ≠ [] → ∀ d, H1 d = none → Q (.ref C) (some d) (upd H1 d (.xd (xdl fs vs))))) : wpAny (model X.prog X.w) X.A (call (.ref C) us) (MkP X pins σ Q) X.xe s1 := by
  obtain ⟨hl, q0, qd⟩ := hq
  have hlim := I1.nolimit
  obtain ⟨mb, hmb1, hmb2⟩ := I1.ok.mod.blt
  have hG := I1.ok.mod.glob.keeps I1.bk
  have hB := hmb1.keeps I1.bk
  have hlu : us.length = fs.length := by rw [← r1.length]; exact hl
  obtain ⟨hp, g, dr, tk, os⟩ := s1
  refine wpAny_call (ex_made T I1.kIn hlim hG hB hmb2 (by have := hr.dp; omega) hlu fun h' tk' e od M => ?_)
  show MkP X pins σ Q (.ref e) ⟨h', g, dr, tk', os⟩
  obtain ⟨t1, hoe⟩ := M.obj
  obtain ⟨G', g1, g2⟩ := restrict h' fun b => decide (b ≠ e)
  have gk : ∀ b, b ≠ e → G'.get? b = h'.get? b := fun b hb => g1 b (decide_eq_true hb)
  have ge : G'.get? e = none := g2 e (by simp)
  have old : ∀ b o, hp.get? b = some o → G'.get? b = some o := fun b o q => (gk b (Nat.ne_of_lt (Nat.lt_of_lt_of_le (Heap.lt_size q) M.new))).trans (M.keep b o q)
  have back : ∀ b o, G'.get? b = some o → h'.get? b = some o := fun b o q => by
    by_cases hb : b = e
    · rw [hb, ge] at q; cases q
    · exact (gk b hb).symm.trans q
  rcases M.dict with ⟨e1, e2⟩ | ⟨hfs, dx, e1, hdx, hne, hns⟩
  · subst e2
    have J : Inv X pins σ H1 ⟨G', g, dr, tk', os⟩ := I1.kept (t' := tk') old
    exact ⟨e, _, _, ⟨G', g, dr, tk', os⟩, _, .ref C, none, rfl, J, back, ge, hoe, ⟨rfl, rfl⟩, rfl, rfl, I1.hok.fresh M.new, rfl, I1.bare, raises_own T.exC T.tyC, q0 e1⟩
  · subst e1
    have rel : ∀ f, RelO ((xdl fs vs).lookup f) (fmap fs us (fun _ => none) f) := fun f => by
        have z := relO_fmap fs vs us [] (fun _ => none) hl r1 (fun _ => trivial) f
        rw [List.append_nil] at z
        exact z
    have ob : ObjOk X.prog X.w (upd H1 dx (.xd (xdl fs vs))) G' dx (.xd (xdl fs vs)) :=
        ⟨_, hns.at (fun o q => (gk dx hne).trans q), rel⟩
    have J : Inv X pins σ (upd H1 dx (.xd (xdl fs vs))) ⟨G', g, dr, tk', os⟩ := I1.laid (t' := tk') old hdx ob
    refine ⟨e, _, _, ⟨G', g, dr, tk', os⟩, _, .ref C, some dx, rfl, J, back, ge, hoe, ⟨rfl, rfl⟩, rfl, rfl, ?_, rfl, I1.bare, raises_own T.exC T.tyC, qd hfs dx (I1.hok.fresh hdx)⟩
    rw [upd_ne (Ne.symm hne)]
    exact I1.hok.fresh M.new
theorem pmk_ex {a : Expr} {as : List Expr} {ta : TA} {p pos : Pos} {k : Nat} (T : ExTxt X.prog X.K X.mg C fI nm fs) (hr : Room k X.A) (ha : PA X (a :: as) ta) (hg : Gl X nm := by rfl) (hdb : (nm == ("__debug__" : Str)) = false := by decide)
    (he : starEach (a :: as) X.env = (false, eval a X.env) :: starEach as X.env := by rfl) (hpl : (backTo pos (starEach as X.env)).any (·.1) = false := by rfl) :
    PMk X (.Call (.Name nm p) (a :: as) [] pos) (tMkX C fs ta) := by
  intro pins s σ H Q I h
  refine wpAny_Call_Name_kw (ld_glob I hg T.gC ?_ hdb)
  refine PySem.W.callWith_K (h₀ := X.base) I.ok.mod.kin T.kC (thn (ha.run pos pins s σ H _ I h) fun us s1 hh => ?_) he hpl
  obtain ⟨vs, H1, I1, r1, q1⟩ := hh
  exact ⟨I1.kIn, mkx_core T hr I1 r1 q1⟩
theorem pmk_ex0 {p pos : Pos} {k : Nat} (T : ExTxt X.prog X.K X.mg C fI nm fs) (hr : Room k X.A) (hg : Gl X nm := by rfl) (hdb : (nm == ("__debug__" : Str)) = false := by decide) :
    PMk X (.Call (.Name nm p) [] [] pos) (tMkX C fs tNil) := by
  intro pins s σ H Q I h
  refine wpAny_Call_Name_kw (ld_glob I hg T.gC ?_ hdb)
  exact PySem.W.callWith_K0 I.kIn T.kC (mkx_core (us := []) T hr I .nil h)
/-- raise nm(a, ..) -/
def tRaiseX (C : Addr) (fs : List Str) (W : WX) (ta : TA) : TS := fun _ σ H => tMkX C fs ta σ H fun cls d H' => W cls d σ H'
theorem ps_raiseX {a : Expr} {as : List Expr} {ta : TA} {W : WX} {p pos pos2 : Pos} {k : Nat} (hc : X.calm = true) (T : ExTxt X.prog X.K X.mg C fI nm fs) (hr : Room k X.A) (tk : Takes X W) (ha : PA X (a :: as) ta) (hg : Gl X nm := by rfl) (hdb : (nm == ("__debug__" : Str)) = false := by decide)
    (he : starEach (a :: as) X.env = (false, eval a X.env) :: starEach as X.env := by rfl) (hpl : (backTo pos (starEach as X.env)).any (·.1) = false := by rfl) :
    PS X (.Raise (some (.Call (.Name nm p) (a :: as) [] pos)) none pos2) (tRaiseX C fs W ta) := ps_raise hc tk (pmk_ex T hr ha hg hdb he hpl)
theorem ps_raiseX0 {W : WX} {p pos pos2 : Pos} {k : Nat} (hc : X.calm = true) (T : ExTxt X.prog X.K X.mg C fI nm fs) (hr : Room k X.A) (tk : Takes X W) (hg : Gl X nm := by rfl) (hdb : (nm == ("__debug__" : Str)) = false := by decide) :
    PS X (.Raise (some (.Call (.Name nm p) [] [] pos)) none pos2) (tRaiseX C fs W tNil) := ps_raise hc tk (pmk_ex0 T hr hg hdb)
end

/-! ### several clauses, with and without names -/
/-- behind a suite with a name (slot i): the slot is empty -/
def gone (i : Nat) (D : Ends) : Ends := { nx := fun σ H => D.nx (σ.set i none) H, rt := D.rt, bk := fun σ H => D.bk (σ.set i none) H, ct := fun σ H => D.ct (σ.set i none) H }
/-- a clause: its class, its name's slot, its suite's reading -/
structure Clause where
  c : Value
  i : Option Nat
  ts : Addr → Value → Option Addr → TS
def wCl (K : PySem.W.Frag) (Wout : WX) (D : Ends) : List Clause → WX
  | [] => Wout
  | q :: r => fun cls d σ H => ∃ b, PySem.W.exmOne K cls q.c = some b ∧ (b = true → ∀ a, H a = none → match q.i with | none => q.ts a cls d D σ H | some i => q.ts a cls d (gone i D) (σ.set i (some (.ref a))) H) ∧ (b = false → wCl K Wout D r cls d σ H)
inductive ClsOk (X : Cx) : List ExceptHandler → List Clause → Prop
  | nil : ClsOk X [] []
  | plain {x : Str} {c : Value} {ts : Addr → Value → Option Addr → TS} {b₀ : Stmt} {suite : List Stmt} {np pos' : Pos} {hds : List ExceptHandler} {l : List Clause} (hc : Names X x c)
      (hsu : ∀ (a : Addr) (oe : Obj) (cls : Value) (d : Option Addr) (pn : List (Addr × Obj)), Zc cls d oe → (∃ vs, oe.data = .fields vs) → X.base.get? a = none → PSs (X.suite a ((a, oe) :: pn)) (b₀ :: suite) (ts a cls d)) (r : ClsOk X hds l) :
      ClsOk X (.ExceptHandler (some (.Name x np)) none (b₀ :: suite) pos' :: hds) (⟨c, none, ts⟩ :: l)
  | named {x n : Str} {c : Value} {i : Nat} {ts : Addr → Value → Option Addr → TS} {b₀ : Stmt} {suite : List Stmt} {np pos' : Pos} {hds : List ExceptHandler} {l : List Clause} (hi : X.N[i]? = some n) (hln : X.env.kindOf n = some .local) (hc : Names X x c)
      (hsu : ∀ (a : Addr) (oe : Obj) (cls : Value) (d : Option Addr) (pn : List (Addr × Obj)), Zc cls d oe → (∃ vs, oe.data = .fields vs) → X.base.get? a = none → PSs (X.suite a ((a, oe) :: pn)) (b₀ :: suite) (ts a cls d)) (r : ClsOk X hds l) :
      ClsOk X (.ExceptHandler (some (.Name x np)) (some n) (b₀ :: suite) pos' :: hds) (⟨c, some i, ts⟩ :: l)
section
variable {X : Cx} {body : List Stmt} {h₀ : ExceptHandler} {hds : List ExceptHandler} {l : List Clause} {pos : Pos} {tb : WX → TS} {Wout : WX}
theorem SP.ofTry {pins : List (Addr × Obj)} {xe : Value → Shared → Prop} {D : Ends} (ok : X.Ok) {f : Flow} {s1 : Shared} (h : SP (X.tr (X.pn ++ pins) xe) [] D f s1) : SP X pins D f s1 := by
  cases f with
  | next => obtain ⟨σ', H', J', q⟩ := h; exact ⟨σ', H', J'.ofTry ok, q⟩
  | brk => obtain ⟨σ', H', J', q⟩ := h; exact ⟨σ', H', J'.ofTry ok, q⟩
  | cont => obtain ⟨σ', H', J', q⟩ := h; exact ⟨σ', H', J'.ofTry ok, q⟩
  | ret u => obtain ⟨v, σ', H', J', r, q⟩ := h; exact ⟨v, σ', H', J'.ofTry ok, r, q⟩
theorem ps_try_cl (hs : X.stack = X.env :: X.outer) (hf : X.env.frame = some X.env.locals) (hN : X.N.Nodup) (tk : Takes X Wout)
    (hb : ∀ (W : WX) (pn : List (Addr × Obj)) (xe : Value → Shared → Prop), Takes (X.tr pn xe) W → PassesOwn (model X.prog X.w) X.A X.env xe → PSs (X.tr pn xe) body (tb W))
    (hh : ClsOk X (h₀ :: hds) l) : PS X (.Try body (h₀ :: hds) [] [] pos) (fun D σ H => tb (wCl X.K Wout D l) D σ H) := by
  refine ⟨fun pins s σ H D I h => wpAny_Try_except ?_⟩
  have ok := I.ok
  have hfr : X.A.frames = some (X.env :: X.outer) := by rw [ok.frames, hs]
  refine wpAny_mono ((hb (wCl X.K Wout D l) (X.pn ++ pins) (fun e s₁ => wpAny (model X.prog X.w) X.A (noteFrame e X.env) (fun _ s₂ => wpAny (model X.prog X.w) X.A (setFlight e none) (fun _ s₃ =>
    wpAny (model X.prog X.w) X.A (handleBy e X.env (h₀ :: hds)) (SP X pins D) X.xe s₃) X.xe s₂) X.xe s₁) (fun u s' xx => ?_) PassesOwn.looking).run [] s σ H D (I.toTry _) h) (fun f s1 hsp => ?_) (fun e s1 he => he)
  · obtain ⟨a, B, sI, pins', σ', H', cls, d, rfl, J', nb, up, sky, na, os, ag, w⟩ := xx
    have J : Inv X pins σ' H' sI := J'.ofTry ok
    rw [hs] at sky
    refine Sky.land Zc.steady hfr hf sky fun h3 fl3 up3 => ?_
    have J3 : Inv X pins σ' H' { s' with heap := h3 } := J.landed nb fl3.1 (up.trans up3) os ag
    obtain ⟨oe3, vs3, he3, hz3, hd3⟩ := fl3.there
    have nfr : a ∉ frs (X.env :: X.outer) := fun hm => by
      obtain ⟨_, o', e', hnf⟩ := fl3.2.2.1.mem hm
      rw [he3] at e'; cases e'
      exact hnf _ hd3
    have nL : a ≠ X.env.locals := fun z => nfr (List.mem_filterMap.mpr ⟨X.env, List.mem_cons_self, by rw [hf, z]⟩)
    have nF : a ∉ X.fs := fun hm => by
      obtain ⟨e, he, q⟩ := List.mem_filterMap.mp hm
      exact nfr (List.mem_filterMap.mpr ⟨e, List.mem_cons_of_mem _ he, q⟩)
    have nbase : X.base.get? a = none := by
      cases q : X.base.get? a with
      | none => rfl
      | some o =>
        have z := nb a o (J.bs a o q).1 (by rw [hs]; exact nfr)
        rw [fl3.2.1] at z
        cases z
    have S3 := J3.suite he3 hd3 na nL nF
    have LT : PySem.W.Looks (model X.prog X.w) h3 (typeOf (.ref a)) cls := fun A Q E s k q => wpAny_typeOf_ref (k _ _ he3) (by rw [hz3.1]; exact q)
    have test : ∀ {x : Str} {c : Value} {np : Pos} {Q : Value → Shared → Prop} {E : Value → Shared → Prop}, Names X x c → Q c { s' with heap := h3 } → wpAny (model X.prog X.w) (X.A.mark (some (.ref a))) (eval (.Name x np) X.env) Q E { s' with heap := h3 } := fun {x c np Q E} hc q => by
      obtain ⟨hg, hdbg, hm | ⟨hm, hv, hnn⟩⟩ := hc
      · exact ld_glob (X := X.suite a ((a, oe3) :: (X.pn ++ pins))) S3 hg hm q hdbg
      · exact ld_blt (X := X.suite a ((a, oe3) :: (X.pn ++ pins))) S3 hg hm hv q hnn hdbg
    have go : ∀ {hds' : List ExceptHandler} {l' : List Clause}, ClsOk X hds' l' → wCl X.K Wout D l' cls d σ' H' →
        wpAny (model X.prog X.w) X.A (handleBy (.ref a) X.env hds') (SP X pins D) X.xe { s' with heap := h3 } := by
      intro hds' l' hk
      induction hk with
      | nil =>
        intro w
        refine wpAny_handleBy_nil ?_
        obtain ⟨k1, k2, k3, oe, vs, T, oT, ts', he, hz, hd, h1, hr⟩ := id fl3
        unfold PySem.passOn
        refine wpAny_bind (wpAny_field he hd h1 ?_)
        rw [if_neg (show ¬ ((Value.ref T == Value.none) = true) from by simp)]
        have fin : wpAny (model X.prog X.w) X.A (setFlight (.ref a) X.env.frame) (fun _ s4 => wpAny (model X.prog X.w) X.A (throw (.ref a) : Sem Flow) (SP X pins D) X.xe s4) X.xe { s' with heap := h3 } := by
          rw [hf]
          refine HandSPX.setFlight_upZ fl3 fun h4 hh4 up4 => wpAny_throw (tk _ _ ?_)
          exact ⟨a, B, sI, pins, σ', H', cls, d, rfl, J, nb, (up.trans up3).trans up4, .inr (.inr (by rw [hs]; exact hh4)), na, os, ag, w⟩
        first
          | exact wpAny_bind (wpAny_pure (wpAny_bind fin))
          | exact wpAny_bind fin
      | @plain x c ts b₀ suite np pos' hds2 l2 hc hsu r ih =>
        intro w
        obtain ⟨b, hb1, hyes, hno⟩ := w
        refine wpAny_handleBy_cons (codeAny_handlers_test (test hc ?_)) (by intro q; cases q)
        have LM := PySem.W.exm_one (M := model X.prog X.w) (J3.kIn) LT hb1
        refine LM.here ?_
        cases b with
        | false => exact ih (hno rfl)
        | true =>
          refine codeAny_handlers_suite (HandSPX.lands_againZ fl3 fun h4 fl4 up4 => ?_)
          have J4 : Inv X pins σ' H' { s' with heap := h4 } := J.landed nb fl4.1 ((up.trans up3).trans up4) os ag
          obtain ⟨oe4, vs4, he4, hz4, hd4⟩ := fl4.there
          have S4 := J4.suite he4 hd4 na nL nF
          refine wpAny_mono ((hsu a oe4 cls d (X.pn ++ pins) hz4 ⟨_, hd4⟩ nbase).run [] _ _ H' _ S4 (hyes rfl a na)) (fun f s6 hsp => ?_) (fun _ _ z => False.elim z)
          cases f with
          | next => obtain ⟨σ6, H6, S6, q6⟩ := hsp; exact ⟨_, _, S6.unsuite ok, q6⟩
          | brk => obtain ⟨σ6, H6, S6, q6⟩ := hsp; exact ⟨_, _, S6.unsuite ok, q6⟩
          | cont => obtain ⟨σ6, H6, S6, q6⟩ := hsp; exact ⟨_, _, S6.unsuite ok, q6⟩
          | ret u => obtain ⟨v6, σ6, H6, S6, r6, q6⟩ := hsp; exact ⟨_, _, _, S6.unsuite ok, r6, q6⟩
      | @named x n c i ts b₀ suite np pos' hds2 l2 hi hln hc hsu r ih =>
        intro w
        obtain ⟨b, hb1, hyes, hno⟩ := w
        refine wpAny_handleBy_cons (codeAny_handlers_test (test hc ?_)) (by intro q; cases q)
        have LM := PySem.W.exm_one (M := model X.prog X.w) (J3.kIn) LT hb1
        refine LM.here ?_
        cases b with
        | false => exact ih (hno rfl)
        | true =>
          refine codeAny_handlers_suite_as (HandSPX.lands_againZ fl3 fun h4 fl4 up4 => ?_)
          have J4 : Inv X pins σ' H' { s' with heap := h4 } := J.landed nb fl4.1 ((up.trans up3).trans up4) os ag
          obtain ⟨oe4, vs4, he4, hz4, hd4⟩ := fl4.there
          have S4 := J4.suite he4 hd4 na nL nF
          refine store_ok (X := X.suite a ((a, oe4) :: (X.pn ++ pins))) (v := .ref a) S4 hN hi (.inl hln) rfl (fun s5 S5 => ?_) (.inr hln)
          refine wpAny_mono ((hsu a oe4 cls d (X.pn ++ pins) hz4 ⟨_, hd4⟩ nbase).run [] s5 _ H' _ S5 (hyes rfl a na)) (fun f s6 hsp => ?_) (fun _ _ z => False.elim z)
          have end_ : ∀ {σ6 : St} {H6 : Hp} {Q : Shared → Prop}, Inv (X.suite a ((a, oe4) :: (X.pn ++ pins))) [] σ6 H6 s6 → (∀ s7, Inv X pins (σ6.set i none) H6 s7 → Q s7) →
              wpAny (model X.prog X.w) X.A (do bindName X.env n .none; unbindBehindTheSuite X.env n pos') (fun _ s7 => Q s7) X.xe s6 := fun {σ6 H6 Q} S6 hq => gone_ok (S6.unsuite ok) hN hi hln hq
          cases f with
          | next => obtain ⟨σ6, H6, S6, q6⟩ := hsp; exact end_ S6 fun s7 J7 => ⟨_, _, J7, q6⟩
          | brk => obtain ⟨σ6, H6, S6, q6⟩ := hsp; exact end_ S6 fun s7 J7 => ⟨_, _, J7, q6⟩
          | cont => obtain ⟨σ6, H6, S6, q6⟩ := hsp; exact end_ S6 fun s7 J7 => ⟨_, _, J7, q6⟩
          | ret u => obtain ⟨v6, σ6, H6, S6, r6, q6⟩ := hsp; exact end_ S6 fun s7 J7 => ⟨_, _, _, J7, r6, q6⟩
    exact go hh w
  · have z := SP.ofTry ok hsp
    cases f with
    | next => obtain ⟨σ', H', J', q⟩ := z; exact wpAny_execs_nil ⟨σ', H', J', q⟩
    | brk => exact z
    | cont => exact z
    | ret u => exact z
end
end L2

namespace L2
open PySem PySem.Spec PyProof.Rows PySem.RingX

/-- a caught exception, while a def looks at it -/
abbrev errO (a : Addr) (oe : Obj) : HO := .frz oe (.ext fun h => h.get? a = some oe)
theorem errO_ne {a : Addr} {oe : Obj} {o : HO} (h : ∀ q u, o ≠ .frz q u) : errO a oe ≠ o := fun z => h _ _ z.symm

/-- the dict of a caught exception, if it has one, is tracked -/
def DictAt (H : Hp) (d : Option Addr) : Prop := d = none ∨ ∃ dd l, d = some dd ∧ H dd = some (.xd l)
theorem DictAt.get {P : Program} {w : World} {H : Hp} {h : Heap} {d : Option Addr} (D : DictAt H d) (hok : HOk P w H h) {a C : Addr} {oe : Obj} (ha : h.get? a = some oe) (hz : Zc (.ref C) d oe) (hf : ∃ vs, oe.data = .fields vs) : ∃ od, PySem.W.InstAt h a oe C od := by
  obtain ⟨vs, hv⟩ := hf
  have no : PySem.W.notCls oe = true := by unfold PySem.W.notCls; rw [hv] <;> rfl
  rcases D with e | ⟨dd, l, e, q⟩
  · exact ⟨none, ha, hz.1, no, by rw [hz.2, e]; trivial⟩
  · obtain ⟨mA, ⟨o, es, ep, ho, _⟩, _⟩ := (show ObjOk P w H h dd (.xd l) from hok dd _ q)
    exact ⟨some o, ha, hz.1, no, by rw [hz.2, e]; exact ho⟩

section
variable {X : Cx} {pins : List (Addr × Obj)} {σ : St} {H : Hp} {s : Shared}
theorem is_exc {C a : Addr} {oe : Obj} {od : Option Obj} {cv : Value} {b : Bool} {Q : Value → Shared → Prop} {A : Around} {E : Value → Shared → Prop} (K : ExcC X.K C) (X1 : X.K.In s.heap) (J : PySem.W.InstAt s.heap a oe C od) (e : PySem.W.kitOne X.K (.ref C) cv = some b)
    (h : ∀ tk, Q (.bool b) { s with toks := tk }) : wpAny (model X.prog X.w) A (call (.builtin "isinstance") [.ref a, cv]) Q E s :=
  PySem.W.kia_one (PySem.W.kitx_exc (od := od) (by obtain ⟨cd, hc, _⟩ := PySem.W.any_some K.hd; rw [hc]; rfl) K.hg K.hk K.hs K.ha K.hn K.ht K.hm) X1 J e (fun z => nomatch z) h
end

/-- isinstance(e, c), e the exception that the suite holds: cls its class, d its dict -/
def rIsX (K : PySem.W.Frag) (a : Addr) (cls : Value) (d : Option Addr) : List V → Hp → VK → Prop := fun xs H Q => ∃ (c : V) (cv : Value) (C : Addr) (b : Bool), xs = [.ref a, c] ∧ cls = .ref C ∧ ExcC K C ∧ DictAt H d ∧ ClsV c cv ∧ PySem.W.kitOne K (.ref C) cv = some b ∧ Q (.bl b) H
theorem call_isX {X : Cx} {a : Addr} {oe : Obj} {cls : Value} {d : Option Addr} {pn : List (Addr × Obj)} (hz : Zc cls d oe) (hf : ∃ vs, oe.data = .fields vs) : CallR (X.suite a ((a, oe) :: pn)) (.builtin "isinstance") (rIsX X.K a cls d) := by
  intro pins s σ H xs us Q I r h
  obtain ⟨c, cv, C, b, rfl, rfl, K, D, k, e, q⟩ := h
  obtain ⟨u1, u2, rfl, r1, r2⟩ := vals2 r
  cases (show u1 = Value.ref a from r1)
  have e2 := k.eq r2
  subst e2
  obtain ⟨hget, _⟩ := I.pin (a, oe) (List.mem_append.mpr (.inl List.mem_cons_self))
  obtain ⟨od, J⟩ := D.get I.hok hget hz hf
  exact is_exc (X := X) K I.kIn J e fun tk => ⟨.bl b, H, I.tok tk, rfl, q⟩
/-- the same in a def that is handed the exception -/
def rIsA (K : PySem.W.Frag) : List V → Hp → VK → Prop := fun xs H Q => ∃ (a C : Addr) (oe : Obj) (d : Option Addr) (c : V) (cv : Value) (b : Bool), xs = [.ref a, c] ∧ H a = some (errO a oe) ∧ Zc (.ref C) d oe ∧ (∃ vs, oe.data = .fields vs) ∧ ExcC K C ∧ DictAt H d ∧ ClsV c cv ∧ PySem.W.kitOne K (.ref C) cv = some b ∧ Q (.bl b) H
theorem call_isA {X : Cx} : CallR X (.builtin "isinstance") (rIsA X.K) := by
  intro pins s σ H xs us Q I r h
  obtain ⟨a, C, oe, d, c, cv, b, rfl, ha, hz, hf, K, D, k, e, q⟩ := h
  obtain ⟨u1, u2, rfl, r1, r2⟩ := vals2 r
  cases (show u1 = Value.ref a from r1)
  have e2 := k.eq r2
  subst e2
  obtain ⟨hget, _⟩ := (show ObjOk X.prog X.w H s.heap a (errO a oe) from I.hok a _ ha)
  obtain ⟨od, J⟩ := D.get I.hok hget hz hf
  exact is_exc (X := X) K I.kIn J e fun tk => ⟨.bl b, H, I.tok tk, rfl, q⟩

/-! ### a def that is handed the exception which the suite holds -/
section
variable {X : Cx} {pins pn : List (Addr × Obj)} {σ : St} {H : Hp} {s : Shared} {a : Addr} {oe : Obj}
theorem track_ok {P : Program} {w : World} {h : Heap} (hok : HOk P w H h) (ha : h.get? a = some oe) (na : H a = none) : HOk P w (upd H a (errO a oe)) h := fun b o q => by
  by_cases hb : b = a
  · subst hb
    rw [upd_same] at q
    cases q
    exact ⟨ha, ha, ⟨_, ha⟩, fun h1 h2 z k => k _ z⟩
  · rw [upd_ne hb] at q
    exact (hok b o q).stay (fun c v _ z => z) (fun c z => by rw [upd_ne (ne_of_none z na)]; exact z) fun c xs z => by rw [upd_ne (ne_of_none z na)]; exact z
theorem untrack_ok {P : Program} {w : World} {h : Heap} (hok : HOk P w H h) (ha : H a = some (errO a oe)) : HOk P w (del H a) h := fun b o q => by
  have hb : b ≠ a := fun z => by rw [z, del_same] at q; cases q
  rw [del_ne hb] at q
  refine (hok b o q).stay (fun c v _ z => z) (fun c z => ?_) fun c xs z => ?_
  · rw [del_ne (ne_of z ha (fun y => nomatch y))]
    exact z
  · rw [del_ne (ne_of z ha (fun y => nomatch y))]
    exact z
theorem untrack_un {fs : List Addr} {H2 : Hp} {h h2 : Heap} {P : Program} {w : World} (na : H a = none) (ha : h.get? a = some oe) (hok : HOk P w H2 h2) (u : Un fs [] (upd H a (errO a oe)) H2 h h2) : Un fs [] H (del H2 a) h h2 := by
  have h2a : H2 a = some (errO a oe) := u.frzs a _ _ upd_same
  have ga : h2.get? a = some oe := (hok a _ h2a).1
  have up : ∀ {b : Addr}, b ≠ a → H b = none → upd H a (errO a oe) b = none := fun {b} hb n => by rw [upd_ne hb]; exact n
  refine ⟨fun b o e n hf hx => ?_, fun b o e n hf hx => ?_, fun b o e n hx => ?_, fun b o e hx => u.there b o e hx, fun b xs q => ?_, fun b o v q => ?_, fun b ps q => ?_⟩
  · by_cases hb : b = a
    · subst hb
      rw [ha] at e
      cases e
      exact ga
    · exact u.keep b o e (up hb n) hf hx
  · by_cases hb : b = a
    · subst hb
      rw [ha] at e
      cases e
      exact ⟨_, ga⟩
    · exact u.slot b o e (up hb n) hf hx
  · by_cases hb : b = a
    · rw [hb]
      exact del_same
    · rw [del_ne hb]
      exact u.free b o e (up hb n) hx
  · have hb := ne_of_none q na
    rw [del_ne hb]
    exact u.tups b xs (by rw [upd_ne hb]; exact q)
  · have hb := ne_of_none q na
    rw [del_ne hb]
    exact u.frzs b o v (by rw [upd_ne hb]; exact q)
  · have hb := ne_of_none q na
    obtain ⟨m, e⟩ := u.tbls b ps (by rw [upd_ne hb]; exact q)
    exact ⟨m, by rw [del_ne hb]; exact e⟩
end
theorem noX {P : Program} {w : World} {outer : List Env} (H : Hp) (s : Shared) (e : Value) (s' : Shared) : ¬ L2.CX P w outer H s E0 e s' := fun ⟨_, _, _, _, _, _, _, _, _, _, _, _, z⟩ => z
theorem no0 {outer : List Env} (H : Hp) (s : Shared) (e : Value) (s' : Shared) : ¬ CX0 outer H s E0 e s' := fun z => z
end L2

namespace L2
open PySem PySem.Spec PyProof.Rows PySem.RingX
/-! ### a def that is called while an exception is handled, and lets nothing out -/
structure RoomS (k : Nat) (A : Around) : Prop where
  dp : A.depth + 3 * k + 5 < recursionLimit
  un : A.units + 16 * k + 200 < cLine
theorem RoomS.of {k : Nat} {A : Around} (r : Room k A) (h : Option Value) : RoomS k (A.mark h) := ⟨r.dp, r.un⟩
theorem RoomS.mono {j k : Nat} {A : Around} (r : RoomS k A) (h : j ≤ k) : RoomS j A := ⟨by have := r.dp; omega, by have := r.un; omega⟩
theorem RoomS.deeper {k : Nat} {A : Around} (r : RoomS (k + 1) A) (env : Env) : RoomS k (A.deeper env) :=
  ⟨by have := r.dp; show A.depth + 1 + 3 * k + 5 < _; omega, by have := r.un; show A.units + 3 + 16 * k + 200 < _; omega⟩
structure FnS (P : Program) (w : World) (K : PySem.W.Frag) (mg : Str → Option Value) (base : Heap) (k : Nat) (f : Addr) (fd : FuncData) (ps : List Str) (sp : Sp) : Prop where
  len : ∀ vs H Q E, sp vs H Q E → vs.length = ps.length
  run : ∀ (A : Around) (outer : List Env) (s : Shared) (H : Hp) (args : Args) (us : List Value) (vs : List V) (Q : VK), RoomS k A → Env0 P w K mg base A outer s H → BindsTo s fd args (ps.zip us) → Vals vs us → sp vs H Q E0 →
    codeAny (model P w) A (.call (.ref f) args) (CR CX0 outer P w H s Q E0) s
/-- such a def's context -/
def cxS (P : Program) (w : World) (K : PySem.W.Frag) (mg : Str → Option Value) (base : Heap) (N : List Str) (qual : Str) (scope : Scope) (f : Addr) (cd : Value) (A : Around) (outer : List Env) (s : Shared) (H : Hp) : Cx :=
  { cxOf CX0 P w K mg base N qual scope f cd A outer s H E0 with calm := false, xe := fun _ _ => False }
theorem Fun.okS {P : Program} {w : World} {K : PySem.W.Frag} {mg : Str → Option Value} {base : Heap} {x qual : Str} {st : Stmt} {f : Addr} {fd : FuncData} {N ps : List Str} {k : Nat} {sp : Sp} (F : Fun K x qual st f fd) (S : FnScope N ps (defScope st)) (len : ∀ vs H Q E, sp vs H Q E → vs.length = ps.length)
    (hbody : ∀ (cdv : Value) (A : Around) (outer : List Env) (s : Shared) (H : Hp) (vs : List V) (Q : VK), RoomS k (A.deeper (envOfC qual (defScope st) s.heap.objs.size f cdv)) → sp vs H Q E0 →
      ∃ t, PSs (cxS P w K mg base N qual (defScope st) f cdv A outer s H) (defBody st) t ∧ t { nx := fun _ H' => Q .non H', rt := Q } (start N vs) H) : FnS P w K mg base (k + 1) f fd ps sp := by
  obtain ⟨oc, od, kV, doc, pm, an, cdv, ct, osl, rfl, lk, hcd⟩ := F.ex
  refine ⟨len, fun A outer s H args us vs Q hr e0 hb r hsp => ?_⟩
  have hl := len _ _ _ _ hsp
  have KX : K.In s.heap := e0.mod.kin.keeps fun b o e => (e0.bs b o e).1
  have lim : s.heap.NoLimit := e0.mod.nolimit.keeps fun b o e => (e0.bs b o e).1
  have hkind : ∀ y ∈ ps.zip us, (defScope st).names.lookup y.1 = some .local ∨ ((defScope st).names.lookup y.1 = some .cell ∧ ((cellsFrom (s.heap.objs.size + 1) (defScope st).names []).lookup y.1).isSome = true) := fun ⟨n, v⟩ hy =>
    (S.par n (List.of_mem_zip hy).1).elim .inl fun q => .inr ⟨q, PySem.W.cellsFrom_some _ _ _ (.inl q)⟩
  refine codeAny_call_function (by have := hr.dp; omega) (KX _ _ lk) rfl S.co S.gen rfl (PySem.W.codeRec_of KX hcd) (hb _ _ _ _ ?_)
  refine wpAny_newFunctionEnv_cells S.kind hkind fun env he s1 y => ?_
  subst he
  refine ⟨lim.keeps y.toInCall.keep, codeAny_func ?_⟩
  obtain ⟨t, ht, hq⟩ := hbody cdv A outer s H vs Q (hr.deeper _) hsp
  have e1 : Env0 P w K mg base { A with handled := none } outer s H := ⟨e0.frames, e0.mod, e0.bs, e0.bsz, e0.funs, e0.frf, e0.hok, e0.bare⟩
  have I0 : Inv (cxOf CX0 P w K mg base N qual (defScope st) f cdv { A with handled := none } outer s H E0) [] (start N vs) H s1 := inv_start S rfl e1 hl r y
  have I : Inv (cxS P w K mg base N qual (defScope st) f cdv A outer s H) [] (start N vs) H s1 :=
    ⟨⟨I0.ok.mod, I0.ok.kind, I0.ok.glob, I0.ok.blt, I0.ok.above, I0.ok.inj, I0.ok.has, I0.ok.cab, (fun z => Bool.noConfusion (show false = true from z)), I0.ok.frames, I0.ok.stk, I0.ok.exf, I0.ok.bs, I0.ok.bsz, I0.ok.noex, I0.ok.exfs, I0.ok.funs, I0.ok.frf⟩,
      I0.os, I0.bare, I0.base, I0.loc, I0.cell, I0.free, I0.freeC, I0.pin, I0.hok, I0.len⟩
  refine wpAny_mono (ht.run [] s1 (start N vs) H _ I hq) (fun fl s' hs => ?_) fun e s' hs => False.elim hs
  have fin : ∀ {σ' : St} {H' : Hp} {v : V} {u : Value}, Inv (cxS P w K mg base N qual (defScope st) f cdv A outer s H) [] σ' H' s' → RelV v u → Q v H' → CE outer P w H s Q u s' :=
    fun {σ' H' v u} J rv q => ⟨v, H', J.os, J.bare, J.base, J.hok, rv, q⟩
  cases fl with
  | ret u => obtain ⟨v, σ', H', J, rv, q⟩ := hs; exact fin J rv q
  | next => obtain ⟨σ', H', J, q⟩ := hs; exact fin (v := V.non) (u := Value.none) J rfl q
  | brk => obtain ⟨_, _, _, q⟩ := hs; exact False.elim q
  | cont => obtain ⟨_, _, _, q⟩ := hs; exact False.elim q

/-- f(e, ..) in a suite; the def is handed the exception at a as an object that it may look at -/
def tCallE (a : Addr) (cls : Value) (d : Option Addr) (sp : Sp) (t : TA) : TE := fun σ H Q => t σ H fun vs H1 => ∀ oe, Zc cls d oe → (∃ vs, oe.data = .fields vs) → H1 a = none → sp vs (upd H1 a (errO a oe)) (fun v H2 => Q v (del H2 a)) E0
section
variable {X : Cx} {k : Nat} {f : Addr} {fd : FuncData} {ps : List Str} {sp : Sp} {x : Str} {p pos : Pos} {e : Expr} {es : List Expr} {t : TA} {a : Addr} {oe : Obj} {cls : Value} {d : Option Addr} {pn : List (Addr × Obj)}
theorem pe_callE (hbase : X.base.get? a = none) (hz : Zc cls d oe) (hfd : ∃ vs, oe.data = .fields vs) (F : FnS X.prog X.w X.K X.mg X.base k f fd ps sp) (hr : Room k X.A) (hg : Gl X x) (hm : X.mg x = some (.ref f)) (hk : PySem.W.keepIn X.K (.ref f) = true) (hb : Binds X.K fd ps [])
    (ha : PA (X.suite a ((a, oe) :: pn)) (e :: es) t) (hdb : (x == ("__debug__" : Str)) = false := by decide)
    (he : starEach (e :: es) X.env = (false, eval e X.env) :: starEach es X.env := by rfl) (hpl : (backTo pos (starEach es X.env)).any (·.1) = false := by rfl) :
    PE (X.suite a ((a, oe) :: pn)) (.Call (.Name x p) (e :: es) [] pos) (tCallE a cls d sp t) := by
  refine ⟨fun pins s σ H Q I h => ?_⟩
  refine wpAny_Call_Name_kw (ld_glob I hg hm ?_ hdb)
  refine PySem.W.callWith_K (h₀ := X.base) I.ok.mod.kin hk (thn (ha.run pos pins s σ H _ I h) fun us s1 ⟨vs, H1, I1, r, q⟩ => ⟨I1.kIn, ?_⟩) he hpl
  show wpAny _ _ (call (.ref f) us) _ _ _
  obtain ⟨hget, na, nL, nF, _⟩ := I1.pin (a, oe) (List.mem_append.mpr (.inl List.mem_cons_self))
  have na' : H1 a = none := na
  have hq := q oe hz hfd na'
  have hl : us.length = ps.length := by rw [← r.length]; exact F.len _ _ _ _ hq
  have b := hb s1 us I1.kIn (by rw [List.append_nil]; exact hl)
  rw [List.append_nil] at b
  have e0 := I1.env0
  have nst : a ∉ frs X.stack := fun z => (List.mem_cons.mp (I1.stkSub a z)).elim nL nF
  have e1 : Env0 X.prog X.w X.K X.mg X.base (X.A.mark (some (.ref a))) X.stack s1 (upd H1 a (errO a oe)) := by
    refine ⟨e0.frames, e0.mod, fun c o z => ?_, e0.bsz, e0.funs, fun c z => ?_, track_ok e0.hok hget na', e0.bare⟩
    · have hc : c ≠ a := fun y => by rw [y, hbase] at z; cases z
      exact ⟨(e0.bs c o z).1, by rw [upd_ne hc]; exact (e0.bs c o z).2⟩
    · have hc : c ≠ a := fun y => nst (y ▸ z)
      rw [upd_ne hc]
      exact e0.frf c z
  refine wpAny_call (codeAny_mono (F.run _ X.stack s1 _ ⟨us, []⟩ us vs _ (.of hr _) e1 b r hq) fun r' s' hq' => ?_)
  cases r' with
  | error e => exact False.elim hq'
  | ok fl =>
    cases fl with
    | ret u =>
      obtain ⟨v, H2, os, bare, un, hok, rv, q2⟩ := hq'
      exact I1.after ⟨v, del H2 a, os, bare, untrack_un na' hget hok un, untrack_ok hok (un.frzs a _ _ upd_same), rv, q2⟩
    | next => exact False.elim hq'
    | brk => exact False.elim hq'
    | cont => exact False.elim hq'
end
end L2

namespace L2
open PySem PySem.Spec PyProof.Rows PySem.RingX
/-! ### the facts of such a class, from what the top has written -/
def exB (K : PySem.W.Frag) (C fI : Addr) (fs : List Str) : Bool :=
  decide (PySem.W.findIn K (.ref C) "__setattr__" = some (some (.builtin "object.__setattr__"))) && (xfB K C && (fs.all (fun f => decide (PySem.W.findIn K (.ref C) f = some none)) &&
    (decide (PySem.W.findIn K (.ref C) "__init__" = some (some (.ref fI))) && (decide (PySem.W.typeIn K (.ref fI) = some (.type "function")) && (PySem.W.keepIn K (.ref C) && (decide (PySem.W.typeIn K (.ref C) = some (.type "type")) &&
      (decide (PySem.W.ks_superIn K C C "__init__" = some (some (.builtin "ValueError.__init__"))) && (decide (PySem.W.subIn K (.ref C) (.type "ValueError") = some true) && (decide (PySem.W.mroIn K C (.ref C) = some true) &&
        (decide (PySem.W.findIn K (.ref C) "__class__" = some (some (.builtin "object.__class__"))) && decide (PySem.W.mroIn K C (.type "object") = some true)))))))))))
structure ExF (K : PySem.W.Frag) (C fI : Addr) (fs : List Str) : Prop where
  sa : PySem.W.findIn K (.ref C) "__setattr__" = some (some (.builtin "object.__setattr__"))
  xf : XfC K C
  noN : ∀ f ∈ fs, PySem.W.findIn K (.ref C) f = some none
  iC : PySem.W.findIn K (.ref C) "__init__" = some (some (.ref fI))
  tC : PySem.W.typeIn K (.ref fI) = some (.type "function")
  kC : PySem.W.keepIn K (.ref C) = true
  tyC : PySem.W.typeIn K (.ref C) = some (.type "type")
  sI : PySem.W.ks_superIn K C C "__init__" = some (some (.builtin "ValueError.__init__"))
  sV : PySem.W.subIn K (.ref C) (.type "ValueError") = some true
  mC : PySem.W.mroIn K C (.ref C) = some true
  cl : PySem.W.findIn K (.ref C) "__class__" = some (some (.builtin "object.__class__"))
  mo : PySem.W.mroIn K C (.type "object") = some true
theorem exB_ok {K : PySem.W.Frag} {C fI : Addr} {fs : List Str} (h : exB K C fI fs = true) : ExF K C fI fs := by
  unfold exB at h
  simp only [Bool.and_eq_true, decide_eq_true_eq, List.all_eq_true] at h
  obtain ⟨h1, h2, h3, h4, h5, h6, h7, h8, h9, h10, h11, h12⟩ := h
  exact ⟨h1, xfB_ok h2, h3, h4, h5, h6, h7, h8, h9, h10, h11, h12⟩
def psOf (st : Stmt) : Pos := match (defArgs st).args with | a :: _ => a.pos | [] => ⟨0, 0, 0, 0⟩
def fpOf (st : Stmt) : List (Str × Pos) := match (defArgs st).args with | _ :: r => r.map fun a => (a.arg, a.pos) | [] => []
def txtOf (st : Stmt) : Str := match defBody st with | .Expr (.Call _ [.Constant (.str t) _ _] _ _) _ :: _ => t | _ => ""
def supOf (st : Stmt) : SupP := match defBody st with
  | .Expr (.Call (.Attribute (.Call (.Name _ q0) _ _ q1) _ q2) [.Constant _ _ q3] _ q4) q5 :: _ => ⟨q0, q1, q2, q3, q4, q5⟩
  | _ => ⟨⟨0, 0, 0, 0⟩, ⟨0, 0, 0, 0⟩, ⟨0, 0, 0, 0⟩, ⟨0, 0, 0, 0⟩, ⟨0, 0, 0, 0⟩, ⟨0, 0, 0, 0⟩⟩
def setOf : Stmt → Str × SetP
  | .Assign [.Attribute (.Name _ p1) f p2] (.Name _ p3) p4 => (f, ⟨p1, p2, p3, p4⟩)
  | _ => ("", ⟨⟨0, 0, 0, 0⟩, ⟨0, 0, 0, 0⟩, ⟨0, 0, 0, 0⟩, ⟨0, 0, 0, 0⟩⟩)
def setsOf (st : Stmt) : List (Str × SetP) := match defBody st with | _ :: r => r.map setOf | [] => []
/-- the text of such an __init__ -/
structure ExText (st : Stmt) (fs : List Str) : Prop where
  hA : defArgs st = exArgs (psOf st) (fpOf st)
  hB : defBody st = exSup (txtOf st) (supOf st) :: (setsOf st).map exSet
  hS : defScope st = exScope fs
  hN : (setsOf st).map (·.1) = fs
  hL : ((supOf st).q2.endLine == (supOf st).q4.line) = true
  nm : namesOk fs = true
  len : fs.length ≤ 500
  bind : ∀ (qual : Str) (kV doc pm : Value) (an : Option Addr) (cda : Addr) (ct : Value) (cc : Addr) (s : Shared) (x : Value) (us : List Value), us.length = fs.length →
    BindsTo s (PySem.W.ksFn "__init__" qual (defArgs st) (defBody st) (defScope st) .none kV doc pm an (.ref cda) ct cc) ⟨x :: us, []⟩ (("self", x) :: fs.zip us)
theorem ex_mk {prog : Program} {K : PySem.W.Frag} {h : Heap} {mg : Str → Option Value} {C fI cc cda : Addr} {nm cn qual q file : Str} {fs : List Str} {st : Stmt} {N : Addr} {bs bm : List Value} {sn : List Str} {sub : List Value} {ab : Bool} {col : Option Bool} {dd : Option Addr} {k0 k1 k2 k3 k5 : Option Value}
    {oc kV doc pm ct cl ccl : Value} {od an cld cdd : Option Addr} {osl csl ccs : Array (Option Value)} {vs : Array Value} {tf : Tok}
    (X : K.In h) (G : h.Ns mainGlobals mg) (T : ExText st fs)
    (aC : PySem.W.nsIn K mainGlobals nm = some (some (.ref C)))
    (xC : K.lookup C = some (excClassObj cn q C N bs bm true sn sub ab col dd k0 k1 k2 k3 k5 "ValueError.__new__")) (hbm : PySem.HandSPX.refsVE bm = true)
    (l : K.lookup fI = some ⟨oc, od, .func (PySem.W.ksFn "__init__" qual (defArgs st) (defBody st) (defScope st) .none kV doc pm an (.ref cda) ct cc), osl⟩) (cd : PySem.W.codeIn K (.ref cda) qual = true)
    (cel : K.lookup cc = some ⟨cl, cld, .cell (some (.ref C)), csl⟩) (ca : K.lookup cda = some ⟨ccl, cdd, .fields vs, ccs⟩) (hv : vs[2]? = some (.str file tf)) (hf : ((prog.main.file : Str) == file) = true)
    (chk : exB K C fI fs = true) (op : PySem.W.nsIn K PySem.cStatics "thirdparty.any" = some none) (su : PySem.W.nsIn K mainGlobals "super" = some none) (htop : (prog.main.scope.names.lookup ("super" : Str)).isSome = false) : ExTxt prog K mg C fI nm fs := by
  have F := exB_ok chk
  have b := T.bind
  rw [T.hA, T.hB, T.hS] at l b
  exact ⟨PySem.W.mg_of X G aC, ⟨cn, q, N, bs, bm, sn, sub, ab, col, dd, k0, k1, k2, k3, k5, xC, hbm⟩, F.sa, F.xf.ga, F.xf.gg, F.noN, F.iC, F.tC, F.kC, F.xf.exC, F.tyC, F.xf.hdC, op, F.sI, F.sV, F.mC, PySem.W.mg_none_of X G su, htop, T.nm, T.len,
    ⟨oc, od, kV, doc, pm, an, cda, ct, cc, osl, psOf st, fpOf st, txtOf st, supOf st, setsOf st, qual, ccl, cl, cdd, cld, ccs, csl, vs, file, tf, l, cd, T.hN, T.hL, ca, hv, hf, cel, b _ _ _ _ _ _ _ _⟩⟩
theorem exc_mk {K : PySem.W.Frag} {C fI : Addr} {fs : List Str} (chk : exB K C fI fs = true) (hn : PySem.W.specialIn K (.builtin "object.__class__") "__get__" = some (some (.builtin "getset_descriptor.__get__"))) (ht : PySem.W.takesIn K (.builtin "object.__class__") = some true) : ExcC K C := by
  have F := exB_ok chk
  exact ⟨F.xf.ga, F.xf.gg, F.xf.exC, F.xf.hdC, F.cl, hn, ht, F.mo⟩
/-- which of the classes cs lie below which -/
def relB (K : PySem.W.Frag) (cs : List Addr) : Bool := cs.zipIdx.all fun p => cs.zipIdx.all fun q => decide (PySem.W.subIn K (.ref p.1) (.ref q.1) = some (decide (p.2 = q.2)))
theorem relB_ok {K : PySem.W.Frag} {cs : List Addr} (h : relB K cs = true) {i j : Nat} (hi : i < cs.length) (hj : j < cs.length) : PySem.W.subIn K (.ref (cs.getD i 0)) (.ref (cs.getD j 0)) = some (decide (i = j)) := by
  unfold relB at h
  rw [List.all_eq_true] at h
  have h1 := h (cs[i], i) (List.mk_mem_zipIdx_iff_getElem?.mpr (List.getElem?_eq_getElem hi))
  rw [List.all_eq_true] at h1
  have h2 := of_decide_eq_true (h1 (cs[j], j) (List.mk_mem_zipIdx_iff_getElem?.mpr (List.getElem?_eq_getElem hj)))
  have e1 : cs.getD i 0 = cs[i] := by rw [List.getD_eq_getElem?_getD, List.getElem?_eq_getElem hi]; rfl
  have e2 : cs.getD j 0 = cs[j] := by rw [List.getD_eq_getElem?_getD, List.getElem?_eq_getElem hj]; rfl
  rw [e1, e2]
  exact h2
theorem kit_ref {K : PySem.W.Frag} {C : Addr} {cls : Value} {b : Bool} (hd : PySem.W.hasDictIn K C = true) (ht : PySem.W.typeIn K (.ref C) = some (.type "type")) (hs : PySem.W.subIn K cls (.ref C) = some b) (hself : cls = .ref C → b = true) : PySem.W.kitOne K cls (.ref C) = some b := by
  unfold PySem.W.kitOne
  by_cases e : cls = .ref C
  · rw [if_pos (by rw [e]; exact beq_self_eq_true _), hself e]
  · rw [if_neg (by simpa using e)]
    unfold PySem.W.kitCls
    obtain ⟨cd, hc, _⟩ := PySem.W.any_some hd
    have z : ((PySem.W.clsIn K C).isSome && PySem.W.typeIn K (.ref C) == some (.type "type")) = true := by rw [hc, ht]; rfl
    show (if ((PySem.W.clsIn K C).isSome && PySem.W.typeIn K (.ref C) == some (.type "type")) = true then PySem.W.subIn K cls (.ref C) else none) = some b
    rw [if_pos z, hs]
theorem kit_type {K : PySem.W.Frag} {T : String} {cls : Value} {b : Bool} (hm : PySem.W.kitMeta T = true) (hs : PySem.W.subIn K cls (.type T) = some b) (hn : cls ≠ .type T) : PySem.W.kitOne K cls (.type T) = some b := by
  unfold PySem.W.kitOne
  rw [if_neg (by simpa using hn)]
  show (if PySem.W.kitMeta T = true then PySem.W.subIn K cls (.type T) else none) = some b
  rw [if_pos hm, hs]
end L2

/-! ## Rings: rows as data, their lengths, what is lawful -/
namespace Rg
open PySem
abbrev D := PyData
def isT : D → Bool | .tuple _ => true | _ => false
def emp : D → Bool | .none => true | _ => false
def wholeD : D → Bool | .int _ => true | _ => false
def prD : D → Bool | .tuple [.int _, .int h] => decide (0 ≤ h) | _ => false
def itemD : D → Bool | .tuple [.int _, .int h, .int _] => decide (0 ≤ h) | _ => false
def stoneD : D → Bool | .str x => x == "stone" | _ => false
def rowD (d : D) : Bool := emp d || stoneD d || itemD d
def keyD : D → Int | .tuple (.int k :: _) => k | _ => 0
def hashD : D → Int | .tuple [_, .int h, _] => h | _ => 0
def keysDiffer (ds : List D) : Bool := decide ((ds.map keyD).Nodup)
def ringL (ds : List D) : Bool := ds.all rowD && (ds.any emp && keysDiffer (ds.filter isT))
def ringD : D → Bool | .tuple ds => ringL ds | _ => false
theorem emp_none {d : D} : emp d = true ↔ d = .none := by
  cases d <;> simp [emp]
theorem isT_emp {d : D} (h : isT d = true) : emp d = false := by
  cases d <;> simp [isT, emp] at *

/-- the row number i, any whole number: round and round -/
def row (ds : List D) (i : Int) : D := ds.getD (i % (ds.length : Int)).toNat .none
def E (ds : List D) (i : Int) : Prop := emp (row ds i) = true
instance (ds : List D) (i : Int) : Decidable (E ds i) := inferInstanceAs (Decidable (_ = true))
theorem row_add (ds : List D) (i : Int) (k : Int) : row ds (i + ds.length * k) = row ds i := by
  unfold row
  rw [Int.add_mul_emod_self_left]
theorem row_mod (ds : List D) (i : Int) : row ds (i % ds.length) = row ds i := by
  unfold row
  rw [Int.emod_emod_of_dvd _ (Int.dvd_refl _)]
theorem row_congr {ds : List D} {i j : Int} (h : i % ds.length = j % ds.length) : row ds i = row ds j := by
  unfold row
  rw [h]
theorem row_nat {ds : List D} {i : Nat} (h : i < ds.length) : row ds (i : Int) = ds[i] := by
  unfold row
  rw [Int.emod_eq_of_lt (by omega) (by omega), Int.toNat_natCast, List.getD_eq_getElem?_getD, List.getElem?_eq_getElem h]
  rfl
theorem row_get? {ds : List D} {i : Nat} (h : i < ds.length) : ds[i]? = some (row ds (i : Int)) := by
  rw [row_nat h, List.getElem?_eq_getElem h]

/-- from p on, n rows hold something, and the next one is empty -/
def IsLen (ds : List D) (p : Int) (n : Nat) : Prop := E ds (p + n) ∧ ∀ j : Nat, j < n → ¬ E ds (p + j)
theorem IsLen.uniq {ds : List D} {p : Int} {a b : Nat} (x : IsLen ds p a) (y : IsLen ds p b) : a = b := by
  rcases Nat.lt_trichotomy a b with h | h | h
  · exact absurd x.1 (y.2 a h)
  · exact h
  · exact absurd y.1 (x.2 b h)
theorem least {P : Nat → Prop} (h : ∃ n, P n) : ∃ n, P n ∧ ∀ j, j < n → ¬ P j := by
  obtain ⟨n, hn⟩ := h
  induction n using Nat.strongRecOn with
  | _ n ih =>
    by_cases c : ∃ j, j < n ∧ P j
    · obtain ⟨j, h1, h2⟩ := c
      exact ih j h1 h2
    · exact ⟨n, hn, fun j hj hp => c ⟨j, hj, hp⟩⟩
/-- some row is empty -/
def Open_ (ds : List D) : Prop := ∃ i : Int, E ds i
theorem open_pos {ds : List D} (i : Int) (h : ¬ E ds i) : 0 < ds.length := by
  cases ds with
  | nil => exact absurd (show E [] i from rfl) h
  | cons _ _ => simp
theorem open_fwd {ds : List D} (hm : 0 < ds.length) (h : Open_ ds) (p : Int) : ∃ n : Nat, n < ds.length ∧ E ds (p + n) := by
  obtain ⟨i, hi⟩ := h
  refine ⟨((i - p) % ds.length).toNat, ?_, ?_⟩
  · have h1 := Int.emod_lt_of_pos (i - p) (show (0 : Int) < ds.length by omega)
    have h2 := Int.emod_nonneg (i - p) (show (ds.length : Int) ≠ 0 by omega)
    omega
  · have h2 := Int.emod_nonneg (i - p) (show (ds.length : Int) ≠ 0 by omega)
    unfold E
    rw [Int.toNat_of_nonneg h2, show row ds (p + (i - p) % ds.length) = row ds i from row_congr (by
      rw [Int.add_comm, Int.emod_add_emod]
      congr 1
      omega)]
    exact hi
theorem len_ex {ds : List D} (hm : 0 < ds.length) (h : Open_ ds) (p : Int) : ∃ n, n < ds.length ∧ IsLen ds p n := by
  obtain ⟨n0, h0, e0⟩ := open_fwd hm h p
  obtain ⟨n, hn, hl⟩ := least (P := fun n => E ds (p + n)) ⟨n0, e0⟩
  refine ⟨n, ?_, hn, hl⟩
  rcases Nat.lt_or_ge n ds.length with z | z
  · exact z
  · exact absurd e0 (hl n0 (by omega))
theorem back_ex {ds : List D} (hm : 0 < ds.length) (h : Open_ ds) (p : Int) : ∃ n : Nat, E ds (p - 1 - n) ∧ ∀ j : Nat, j < n → ¬ E ds (p - 1 - j) := by
  obtain ⟨n0, h0, e0⟩ := open_fwd hm h p
  refine least (P := fun n : Nat => E ds (p - 1 - n)) ⟨ds.length - 1 - n0, ?_⟩
  unfold E at *
  have e : row ds (p - 1 - ((ds.length - 1 - n0 : Nat) : Int)) = row ds (p + n0) := row_congr (by
    have q : p - 1 - ((ds.length - 1 - n0 : Nat) : Int) = (p + n0) + ds.length * (-1) := by omega
    rw [q, Int.add_mul_emod_self_left])
  show emp (row ds (p - 1 - ((ds.length - 1 - n0 : Nat) : Int))) = true
  rw [e]
  exact e0
open Classical in
/-- how many rows hold something from p on -/
noncomputable def len (ds : List D) (p : Int) : Nat := if h : ∃ n, IsLen ds p n then choose h else 0
theorem len_spec {ds : List D} {p : Int} (h : ∃ n, IsLen ds p n) : IsLen ds p (len ds p) := by
  unfold len
  rw [dif_pos h]
  exact Classical.choose_spec h
theorem len_of {ds : List D} {p : Int} {n : Nat} (h : IsLen ds p n) : len ds p = n := (len_spec ⟨n, h⟩).uniq h

/-- the runs among the rows below n -/
noncomputable def runsTo (ds : List D) (n : Nat) : List (Nat × Nat) := (List.range n).filterMap fun (f : Nat) => if ¬ E ds (f : Int) ∧ E ds ((f : Int) - 1) then some (f, len ds f) else none
noncomputable def runs (ds : List D) : List (Nat × Nat) := runsTo ds ds.length
theorem runsTo_succ (ds : List D) (n : Nat) : runsTo ds (n + 1) = runsTo ds n ++ (if ¬ E ds (n : Int) ∧ E ds ((n : Int) - 1) then [(n, len ds n)] else []) := by
  unfold runsTo
  rw [List.range_succ, List.filterMap_append]
  congr 1
  by_cases c : ¬ E ds n ∧ E ds ((n : Int) - 1)
  · rw [List.filterMap_cons, if_pos c, if_pos c]; rfl
  · rw [List.filterMap_cons, if_neg c, if_neg c]; rfl
theorem mem_runs {ds : List D} {q : Nat × Nat} : q ∈ runs ds ↔ q.1 < ds.length ∧ ¬ E ds q.1 ∧ E ds ((q.1 : Int) - 1) ∧ q.2 = len ds q.1 := by
  unfold runs runsTo
  rw [List.mem_filterMap]
  constructor
  · rintro ⟨f, hf, e⟩
    split at e
    · rename_i c
      cases e
      exact ⟨List.mem_range.mp hf, c.1, c.2, rfl⟩
    · cases e
  · rintro ⟨h1, h2, h3, h4⟩
    refine ⟨q.1, List.mem_range.mpr h1, ?_⟩
    rw [if_pos ⟨h2, h3⟩, ← h4]

/-- how far the item in the row r is from its home -/
def gap (ds : List D) (r : Int) : Int := (r - hashD (row ds r)) % ds.length
def Reached (ds : List D) : Prop := ∀ r : Int, isT (row ds r) = true → ∀ j : Nat, (j : Int) ≤ gap ds r → ¬ E ds (r - j)
def InOrder (ds : List D) : Prop := ∀ r : Int, isT (row ds r) = true → isT (row ds (r + 1)) = true → gap ds (r + 1) ≤ gap ds r + 1
def NoStone (ds : List D) : Prop := ∀ r : Int, stoneD (row ds r) = false
theorem gap_congr {ds : List D} {i j : Int} (h : i % ds.length = j % ds.length) : gap ds i = gap ds j := by
  unfold gap
  rw [row_congr h, Int.sub_emod, h, ← Int.sub_emod]
theorem gap_mod (ds : List D) (i : Int) : gap ds (i % ds.length) = gap ds i := gap_congr (Int.emod_emod_of_dvd _ (Int.dvd_refl _))
theorem gap_nn {ds : List D} (hm : 0 < ds.length) (r : Int) : 0 ≤ gap ds r := Int.emod_nonneg _ (by omega)
theorem gap_lt {ds : List D} (hm : 0 < ds.length) (r : Int) : gap ds r < ds.length := Int.emod_lt_of_pos _ (by omega)
theorem isT_notE {ds : List D} {r : Int} (h : isT (row ds r) = true) : ¬ E ds r := by
  unfold E
  rw [isT_emp h]
  exact Bool.false_ne_true
theorem E_congr {ds : List D} {i j : Int} (h : i % ds.length = j % ds.length) : E ds i ↔ E ds j := by
  unfold E
  rw [row_congr h]
theorem reached_runs {ds : List D} (hm : 0 < ds.length) (ho : Open_ ds) : Reached ds ↔ ∀ q ∈ runs ds, ∀ b : Nat, b < q.2 → isT (row ds (q.1 + b)) = true → gap ds (q.1 + b) ≤ b := by
  constructor
  · intro R q hq b hb ht
    obtain ⟨h1, h2, h3, h4⟩ := mem_runs.mp hq
    refine Int.not_lt.mp fun hlt => ?_
    refine R _ ht (b + 1) (by omega) ?_
    have e : ((q.1 : Int) + b) - ((b + 1 : Nat) : Int) = (q.1 : Int) - 1 := by omega
    rw [e]
    exact h3
  · intro H r ht j hj
    obtain ⟨n, hn, hl⟩ := back_ex hm ho r
    have nE : ∀ i : Nat, i ≤ n → ¬ E ds (r - i) := fun i hi => by
      cases i with
      | zero => rw [show r - ((0 : Nat) : Int) = r by omega]; exact isT_notE ht
      | succ i =>
        have := hl i (by omega)
        rw [show r - ((i + 1 : Nat) : Int) = r - 1 - i by omega]
        exact this
    -- the first row of its run
    have hf0 := Int.emod_nonneg (r - n) (show (ds.length : Int) ≠ 0 by omega)
    have hf1 := Int.emod_lt_of_pos (r - n) (show (0 : Int) < ds.length by omega)
    have ef : (((r - n) % ds.length).toNat : Int) = (r - n) % ds.length := Int.toNat_of_nonneg hf0
    have cong : ∀ k : Int, ((((r - n) % ds.length).toNat : Int) + k) % ds.length = (r - n + k) % ds.length := fun k => by
      rw [ef, Int.emod_add_emod]
    obtain ⟨L, hL, isL⟩ := len_ex hm ho ((((r - n) % ds.length).toNat : Nat) : Int)
    have hLn : n < L := by
      refine Nat.not_le.mp fun z => ?_
      have := isL.1
      rw [E_congr (cong L)] at this
      refine nE (n - L) (by omega) ?_
      rw [show r - ((n - L : Nat) : Int) = r - n + L by omega]
      exact this
    have mem : (((r - n) % ds.length).toNat, L) ∈ runs ds := mem_runs.mpr ⟨by omega, by
        have := cong 0
        rw [Int.add_zero, Int.add_zero] at this
        rw [E_congr this]
        exact nE n (Nat.le_refl _), by
        have := cong (-1)
        rw [show ((((r - n) % ds.length).toNat : Nat) : Int) - 1 = (((r - n) % ds.length).toNat : Int) + -1 by omega, E_congr this, show r - n + -1 = r - 1 - n by omega]
        exact hn, (len_of isL).symm⟩
    have c2 : ((((r - n) % ds.length).toNat : Int) + (n : Int)) % ds.length = r % ds.length := by
      rw [cong n]
      congr 1
      omega
    have g := H _ mem n hLn (by rw [row_congr c2]; exact ht)
    rw [gap_congr c2] at g
    exact nE j (by omega)
end Rg

namespace Rg
open PySem
theorem itemD_isT {d : D} (h : itemD d = true) : isT d = true := by
  unfold itemD at h
  split at h
  · rfl
  · cases h
def Clean (ds : List D) : Prop := ∀ d ∈ ds, emp d = true ∨ itemD d = true
theorem row_mem {ds : List D} (hm : 0 < ds.length) (i : Int) : row ds i ∈ ds := by
  have h1 := Int.emod_lt_of_pos i (show (0 : Int) < ds.length by omega)
  have h2 := Int.emod_nonneg i (show (ds.length : Int) ≠ 0 by omega)
  have h3 : (i % (ds.length : Int)).toNat < ds.length := by omega
  unfold row
  rw [List.getD_eq_getElem?_getD, List.getElem?_eq_getElem h3]
  exact List.getElem_mem h3
theorem Clean.isT {ds : List D} (c : Clean ds) (hm : 0 < ds.length) {i : Int} (h : ¬ E ds i) : itemD (row ds i) = true := (c _ (row_mem hm i)).resolve_left h
theorem row_set {ds : List D} {i : Nat} (hi : i < ds.length) (c : D) (p : Int) : row (ds.set i c) p = if p % (ds.length : Int) = i then c else row ds p := by
  have h1 := Int.emod_lt_of_pos p (show (0 : Int) < ds.length by omega)
  have h2 := Int.emod_nonneg p (show (ds.length : Int) ≠ 0 by omega)
  unfold row
  rw [List.length_set, List.getD_eq_getElem?_getD, List.getElem?_set]
  by_cases h : p % (ds.length : Int) = i
  · rw [if_pos h, if_pos (by omega), if_pos hi]; rfl
  · rw [if_neg h, if_neg (by omega), List.getD_eq_getElem?_getD]
/-- how far c would be from its home in the row p -/
def dst (m : Nat) (c : D) (p : Int) : Int := (p - hashD c) % m
theorem gap_dst (ds : List D) (r : Int) : gap ds r = dst ds.length (row ds r) r := rfl
/-- c is to be put into ds, from the row p on -/
structure Carry (ds : List D) (c : D) (p : Int) : Prop where
  it : itemD c = true
  cl : Clean ds
  R : Reached ds
  O : InOrder ds
  op : Open_ ds
  pos : 0 < ds.length
  wk : ∀ j : Nat, 1 ≤ j → (j : Int) ≤ dst ds.length c p → ¬ E ds (p - j)
  od : 1 ≤ dst ds.length c p → dst ds.length c p ≤ gap ds (p - 1) + 1
section
variable {ds : List D} {c : D} {p : Int}
theorem dst_nn (x : Carry ds c p) : 0 ≤ dst ds.length c p := Int.emod_nonneg _ (by have := x.pos; omega)
theorem dst_lt (x : Carry ds c p) : dst ds.length c p < ds.length := Int.emod_lt_of_pos _ (by have := x.pos; omega)
theorem ix_ok (hm : 0 < ds.length) (p : Int) : ((p % (ds.length : Int)).toNat : Int) = p % ds.length ∧ (p % (ds.length : Int)).toNat < ds.length := by
  have h1 := Int.emod_lt_of_pos p (show (0 : Int) < ds.length by omega)
  have h2 := Int.emod_nonneg p (show (ds.length : Int) ≠ 0 by omega)
  omega
/-- an empty row lies behind all that was walked -/
theorem room_of (x : Carry ds c p) (hp : ¬ E ds p) : dst ds.length c p + 1 < ds.length := by
  have h0 := dst_nn x
  obtain ⟨n, hn, hl⟩ := back_ex x.pos x.op (p + 1)
  obtain ⟨n0, h1, e0⟩ := open_fwd x.pos x.op (p - dst ds.length c p)
  -- the next empty row from the home on lies behind p
  refine Int.not_le.mp fun z => ?_
  have hd : dst ds.length c p = ds.length - 1 := by have := dst_lt x; omega
  have : (n0 : Int) ≤ dst ds.length c p := by omega
  by_cases e : (n0 : Int) = dst ds.length c p
  · rw [e, show p - dst ds.length c p + dst ds.length c p = p by omega] at e0
    exact hp e0
  · refine x.wk (dst ds.length c p - n0).toNat (by omega) (by omega) ?_
    rw [show p - ((dst ds.length c p - n0).toNat : Int) = p - dst ds.length c p + n0 by omega]
    exact e0
theorem emod_succ {a m : Int} (hm : 0 < m) (h : a % m + 1 < m) : (a + 1) % m = a % m + 1 := by
  have h0 := Int.emod_nonneg a (show m ≠ 0 by omega)
  rw [Int.add_emod]
  by_cases e : m = 1
  · omega
  · rw [Int.emod_eq_of_lt (show (0 : Int) ≤ 1 by omega) (by omega), Int.emod_eq_of_lt (by omega) h]
theorem dst_succ (x : Carry ds c p) (h : dst ds.length c p + 1 < ds.length) : dst ds.length c (p + 1) = dst ds.length c p + 1 := by
  unfold dst at *
  rw [show p + 1 - hashD c = p - hashD c + 1 by omega]
  exact emod_succ (by have := x.pos; omega) h
theorem Carry.go (x : Carry ds c p) (hp : ¬ E ds p) (hg : ¬ gap ds p < dst ds.length c p) : Carry ds c (p + 1) := by
  have hr := room_of x hp
  have hs := dst_succ x hr
  refine ⟨x.it, x.cl, x.R, x.O, x.op, x.pos, fun j h1 h2 => ?_, fun _ => ?_⟩
  · rw [hs] at h2
    by_cases e : j = 1
    · rw [e, show p + 1 - ((1 : Nat) : Int) = p by omega]; exact hp
    · have := x.wk (j - 1) (by omega) (by omega)
      rw [show p + 1 - (j : Int) = p - ((j - 1 : Nat) : Int) by omega]; exact this
  · rw [hs, show p + 1 - 1 = p by omega]
    omega
/-- what a row holds does not hang on more than whether it holds something -/
theorem E_set (hm : 0 < ds.length) (hc : itemD c = true) (i : Int) : E (ds.set (p % (ds.length : Int)).toNat c) i ↔ E ds i ∧ i % (ds.length : Int) ≠ p % ds.length := by
  obtain ⟨h1, h2⟩ := ix_ok hm p
  unfold E
  rw [row_set h2, h1]
  by_cases e : i % (ds.length : Int) = p % ds.length
  · rw [if_pos e, isT_emp (itemD_isT hc)]
    exact ⟨fun z => absurd z Bool.false_ne_true, fun z => absurd e z.2⟩
  · rw [if_neg e]
    exact ⟨fun z => ⟨z, e⟩, fun z => z.1⟩
theorem gap_set (hm : 0 < ds.length) (i : Int) : gap (ds.set (p % (ds.length : Int)).toNat c) i = if i % (ds.length : Int) = p % ds.length then dst ds.length c i else gap ds i := by
  obtain ⟨h1, h2⟩ := ix_ok hm p
  unfold gap
  rw [row_set h2, h1, List.length_set]
  by_cases e : i % (ds.length : Int) = p % ds.length
  · rw [if_pos e, if_pos e]; rfl
  · rw [if_neg e, if_neg e]
theorem dst_congr {m : Nat} {a b : Int} (h : a % m = b % m) : dst m c a = dst m c b := by
  unfold dst
  rw [Int.sub_emod, h, ← Int.sub_emod]
theorem clean_set (x : Carry ds c p) (i : Nat) : Clean (ds.set i c) := fun d hd => by
  rcases List.mem_or_eq_of_mem_set hd with e | e
  · exact x.cl d e
  · rw [e]; exact .inr x.it
theorem Carry.reached (x : Carry ds c p) : Reached (ds.set (p % (ds.length : Int)).toNat c) := by
  intro r ht j hj
  rw [E_set x.pos x.it]
  rintro ⟨h1, h2⟩
  rw [gap_set x.pos] at hj
  obtain ⟨i1, i2⟩ := ix_ok x.pos p
  rw [row_set i2, i1] at ht
  by_cases e : r % (ds.length : Int) = p % ds.length
  · rw [if_pos e, dst_congr e] at hj
    have e2 : (r - j) % (ds.length : Int) = (p - j) % ds.length := by rw [Int.sub_emod, e, ← Int.sub_emod]
    cases j with
    | zero => exact h2 (by rw [show r - ((0 : Nat) : Int) = r by omega]; exact e)
    | succ j => exact x.wk (j + 1) (by omega) hj ((E_congr e2).mp h1)
  · rw [if_neg e] at hj ht
    exact x.R r ht j hj h1
theorem Carry.order (x : Carry ds c p) (h : ∀ r : Int, r % (ds.length : Int) = p % ds.length → (r + 1) % (ds.length : Int) ≠ p % ds.length → isT (row ds (r + 1)) = true → gap ds (r + 1) ≤ dst ds.length c p + 1) : InOrder (ds.set (p % (ds.length : Int)).toNat c) := by
  intro r h1 h2
  obtain ⟨i1, i2⟩ := ix_ok x.pos p
  rw [gap_set x.pos, gap_set x.pos]
  rw [row_set i2, i1] at h1 h2
  have d0 := dst_nn x
  by_cases e1 : (r + 1) % (ds.length : Int) = p % ds.length
  · rw [if_pos e1, dst_congr e1]
    by_cases e2 : r % (ds.length : Int) = p % ds.length
    · rw [if_pos e2, dst_congr e2]; omega
    · rw [if_neg e2]
      have e3 : r % (ds.length : Int) = (p - 1) % ds.length := by
        rw [show r = (r + 1) - 1 by omega, Int.sub_emod, e1, ← Int.sub_emod]
      have := gap_nn x.pos r
      by_cases z : 1 ≤ dst ds.length c p
      · have := x.od z
        rw [gap_congr e3]; omega
      · omega
  · rw [if_neg e1]
    rw [if_neg e1] at h2
    by_cases e2 : r % (ds.length : Int) = p % ds.length
    · rw [if_pos e2, dst_congr e2]
      exact h r e2 e1 h2
    · rw [if_neg e2] at h1 ⊢
      exact x.O r h1 h2
theorem succ_congr {a b : Int} {m : Nat} (h : a % (m : Int) = b % m) : (a + 1) % (m : Int) = (b + 1) % m := by rw [Int.add_emod, h, ← Int.add_emod]
theorem Carry.swap (x : Carry ds c p) (hp : ¬ E ds p) (hg : gap ds p < dst ds.length c p) : Carry (ds.set (p % (ds.length : Int)).toNat c) (row ds p) (p + 1) := by
  obtain ⟨i1, i2⟩ := ix_ok x.pos p
  have hit := x.cl.isT x.pos hp
  have hl : (ds.set (p % (ds.length : Int)).toNat c).length = ds.length := List.length_set
  have g0 := gap_nn x.pos p
  have hd : dst ds.length (row ds p) (p + 1) = gap ds p + 1 := by
    have := dst_lt x
    rw [gap_dst] at *
    unfold dst at *
    rw [show p + 1 - hashD (row ds p) = p - hashD (row ds p) + 1 by omega]
    exact emod_succ (by have := x.pos; omega) (by omega)
  refine ⟨hit, clean_set x _, x.reached, x.order fun r e1 e2 ht => ?_, ?_, by rw [hl]; exact x.pos, fun j h1 h2 => ?_, fun _ => ?_⟩
  · have e3 := succ_congr e1
    have := x.O p (itemD_isT hit) (by rw [← row_congr e3]; exact ht)
    rw [gap_congr e3]
    omega
  · obtain ⟨i, hi⟩ := x.op
    exact ⟨i, (E_set x.pos x.it i).mpr ⟨hi, fun e => hp ((E_congr e).mp hi)⟩⟩
  · rw [hl, hd] at h2
    rw [E_set x.pos x.it]
    rintro ⟨z, z2⟩
    have := x.R p (itemD_isT hit) (j - 1) (by omega)
    rw [show p + 1 - (j : Int) = p - ((j - 1 : Nat) : Int) by omega] at z
    exact this z
  · rw [hl, hd, gap_set x.pos, if_pos (by rw [show p + 1 - 1 = p by omega]), show p + 1 - 1 = p by omega]
    omega
theorem Carry.done (x : Carry ds c p) (hp : E ds p) : Clean (ds.set (p % (ds.length : Int)).toNat c) ∧ Reached (ds.set (p % (ds.length : Int)).toNat c) ∧ InOrder (ds.set (p % (ds.length : Int)).toNat c) := by
  refine ⟨clean_set x _, x.reached, x.order fun r e1 e2 ht => ?_⟩
  have d0 := dst_nn x
  by_cases z : gap ds (r + 1) ≤ 0
  · omega
  · exfalso
    refine x.R (r + 1) ht 1 (by omega) ?_
    rw [show r + 1 - ((1 : Nat) : Int) = r by omega]
    exact (E_congr e1).mpr hp
end
theorem perm_swap : ∀ (l : List D) (i : Nat) (x c : D), l[i]? = some x → isT x = true → isT c = true → (x :: (l.set i c).filter isT).Perm (c :: l.filter isT)
  | [], _, _, _, h, _, _ => by simp at h
  | y :: l, 0, x, c, h, hx, hc => by
    have e : y = x := by simpa using h
    subst e
    rw [List.set_cons_zero, List.filter_cons_of_pos hc, List.filter_cons_of_pos hx]
    exact .swap _ _ _
  | y :: l, i + 1, x, c, h, hx, hc => by
    have ih := perm_swap l i x c (by simpa using h) hx hc
    rw [List.set_cons_succ]
    cases hy : isT y with
    | true =>
      rw [List.filter_cons_of_pos hy, List.filter_cons_of_pos hy]
      exact (List.Perm.swap y x _).trans ((ih.cons y).trans (.swap _ _ _))
    | false =>
      rw [List.filter_cons_of_neg (by rw [hy]; decide), List.filter_cons_of_neg (by rw [hy]; decide)]
      exact ih
theorem perm_fill : ∀ (l : List D) (i : Nat) (x c : D), l[i]? = some x → isT x = false → isT c = true → ((l.set i c).filter isT).Perm (c :: l.filter isT)
  | [], _, _, _, h, _, _ => by simp at h
  | y :: l, 0, x, c, h, hx, hc => by
    have e : y = x := by simpa using h
    subst e
    rw [List.set_cons_zero, List.filter_cons_of_pos hc, List.filter_cons_of_neg (by rw [hx]; decide)]
  | y :: l, i + 1, x, c, h, hx, hc => by
    have ih := perm_fill l i x c (by simpa using h) hx hc
    rw [List.set_cons_succ]
    cases hy : isT y with
    | true =>
      rw [List.filter_cons_of_pos hy, List.filter_cons_of_pos hy]
      exact (ih.cons y).trans (.swap _ _ _)
    | false =>
      rw [List.filter_cons_of_neg (by rw [hy]; decide), List.filter_cons_of_neg (by rw [hy]; decide)]
      exact ih
theorem open_of {ds : List D} (cl : Clean ds) (h : (ds.filter isT).length < ds.length) : Open_ ds := by
  by_cases c : ∃ d ∈ ds, emp d = true
  · obtain ⟨d, hd, he⟩ := c
    obtain ⟨i, hi, e⟩ := List.getElem_of_mem hd
    refine ⟨(i : Int), ?_⟩
    unfold E
    rw [row_nat hi, e]
    exact he
  · exfalso
    have : ds.filter isT = ds := List.filter_eq_self.mpr fun d hd => itemD_isT ((cl d hd).resolve_left fun z => c ⟨d, hd, z⟩)
    rw [this] at h
    exact Nat.lt_irrefl _ h
end Rg

namespace L2
open PySem PySem.Spec PyProof.Rows
/-! ### len(set(xs)) of any ints -/
def FM (ns : List Int) : List Int := PyProof.Rows.firstMet (fun i => ns.getD i 0) ns.length
def tLenSetA (K : PySem.W.Frag) (ta : TE) : TE := fun σ H Q => ta σ H fun x H1 => ∃ (l : Addr) (ns : List Int), x = .ref l ∧ SqL K H1 l (ns.map V.int) ∧ ns.length ≤ 4000 ∧ Q (.int ((FM ns).length : Nat)) H1
theorem pe_lenSetA {X : Cx} {a : Expr} {ta : TE} {p p2 q pos : Pos} (hg : Gl X "len") (hm : X.mg "len" = none) (hg2 : Gl X "set") (hm2 : X.mg "set" = none) (ha : PE X a ta) (hc : X.calm = true := by rfl)
    (na : starEach [a] X.env = (false, eval a X.env) :: starEach [] X.env := by rfl) : PE X (.Call (.Name "len" p) [.Call (.Name "set" p2) [a] [] q] [] pos) (tLenSetA X.K ta) := by
  refine ⟨fun pins s σ H Q I h => Call_ (ld_blt I hg hm PySem.boot_len ?_)⟩
  refine callWith_builtin1 (args_cons ?_ rfl) rfl rfl
  refine Call_ (ld_blt I hg2 hm2 PyProof.Rows.boot_set ?_)
  refine callWith_type1 (args_cons (thn (ha.run pins s σ H _ I h) fun v s1 ⟨x, H1, I1, r1, q1⟩ => args_nil ?_) na) na rfl
  obtain ⟨l, ns, rfl, hq, hl, q1⟩ := q1
  cases r1
  obtain ⟨its, r, pl, hz⟩ := I1.list hq
  have hlen : its.toArray.size = ns.length := by rw [List.size_toArray, ← r.length, List.length_map]
  refine call_set_list (I1.ok.hd hc) pl.isList (by simpa using RZ.intsAre_vals r) (by rw [hlen]; unfold scanBound; omega) fun h' tk hS hk => args_nil ?_
  rw [hlen] at hS
  have fl : (FM ns).length ≤ ns.length := by
    unfold FM
    have : ∀ i, (PyProof.Rows.firstMet (fun i => ns.getD i 0) i).length ≤ i := fun i => by
      induction i with
      | zero => exact Nat.le_refl _
      | succ i ih =>
        rw [PyProof.Rows.firstMet_succ]
        unfold PyProof.Rows.step_dedup
        split
        · omega
        · simp only [List.length_append, List.length_cons, List.length_nil]; omega
    exact this _
  obtain ⟨o, es, ep, t, ho, hex, hd, _, _, _, hf, hn⟩ := hS
  have I2 : Inv X pins σ H1 { s1 with heap := h', toks := tk } := I1.kept fun b o e => hk b o (Heap.lt_size e) e
  have hn' : es.size = (FM ns).length := hn
  exact call_len_set ho hex hd hf (by rw [hn']; omega) ⟨.int (FM ns).length, H1, I2.tok _, ⟨_, by rw [hn']⟩, q1⟩
theorem fm_nodup (ns : List Int) : ((FM ns).length = ns.length) ↔ ns.Nodup := by
  have key : ∀ i, i ≤ ns.length → ((PyProof.Rows.firstMet (fun i => ns.getD i 0) i).length ≤ i) ∧ ((PyProof.Rows.firstMet (fun i => ns.getD i 0) i).length = i → PyProof.Rows.firstMet (fun i => ns.getD i 0) i = ns.take i ∧ (ns.take i).Nodup) := by
    intro i
    induction i with
    | zero => intro _; exact ⟨Nat.le_refl _, fun _ => ⟨rfl, by simp⟩⟩
    | succ i ih =>
      intro hi
      obtain ⟨h1, h2⟩ := ih (by omega)
      have hlt : i < ns.length := hi
      have e1 : ns.getD i 0 = ns[i] := by rw [List.getD_eq_getElem?_getD, List.getElem?_eq_getElem hlt]; rfl
      rw [PyProof.Rows.firstMet_succ]
      unfold PyProof.Rows.step_dedup
      by_cases c : (PyProof.Rows.firstMet (fun i => ns.getD i 0) i).any (· == ns.getD i 0) = true
      · rw [if_pos c]
        exact ⟨by omega, fun z => by omega⟩
      · rw [if_neg c]
        refine ⟨by simp only [List.length_append, List.length_cons, List.length_nil]; omega, fun z => ?_⟩
        simp only [List.length_append, List.length_cons, List.length_nil] at z
        obtain ⟨e2, nd⟩ := h2 (by omega)
        have e3 : ns.take (i + 1) = ns.take i ++ [ns[i]] := by rw [List.take_add_one, List.getElem?_eq_getElem hlt]; rfl
        rw [e2, e1, e3]
        refine ⟨rfl, List.nodup_append.mpr ⟨nd, by simp, fun a ha b hb => ?_⟩⟩
        rw [List.mem_singleton.mp hb]
        intro e
        refine c ?_
        rw [e2, e1]
        exact List.any_eq_true.mpr ⟨a, ha, by simp [e]⟩
  obtain ⟨_, h⟩ := key ns.length (Nat.le_refl _)
  constructor
  · intro e
    have := (h e).2
    rw [List.take_length] at this
    exact this
  · intro nd
    unfold FM
    rw [RZ.firstMet_nodup nd ns.length (Nat.le_refl _), List.take_length]

/-! ### isinstance of data -/
def tyD : PyData → String
  | .none => "NoneType" | .bool _ => "bool" | .int _ => "int" | .str _ => "str" | .list _ => "list" | .tuple _ => "tuple" | .dict _ => "dict"
theorem dp_ty {K : PySem.W.Frag} {H : Hp} {v : V} {d : PyData} (h : Dp K H v d) : TyX K H v (.type (tyD d)) := by
  cases h with
  | non => exact .base .non
  | bl b => exact .base (.bl b)
  | int i => exact .base (.int i)
  | str x => exact .base (.str x)
  | lst q _ =>
    rcases q with (q | ⟨o, q⟩) | ⟨o, its, n, q, c, _⟩
    · exact .base (.lst q)
    · exact .base (.frz q)
    · exact .kList q c
  | tup q _ =>
    rcases q with (q | ⟨o, q⟩) | ⟨o, its, n, q, c, _⟩
    · exact .base (.tup q)
    · exact .fTuple q
    · exact .kTuple q c
theorem Dp.keep {K : PySem.W.Frag} {H H' : Hp} (s : Same H H') : ∀ {d : PyData} {v : V}, Dp K H v d → Dp K H' v d := by
  have sqT : ∀ {a : Addr} {xs : List V}, SqT K H a xs → SqT K H' a xs := fun {a xs} q => by
    rcases q with (q | ⟨o, q⟩) | q
    · exact .inl (.inl (s _ _ q))
    · exact .inl (.inr ⟨o, s _ _ q⟩)
    · exact .inr q
  intro d v h
  induction h using Dp.rec (motive_2 := fun vs ds _ => DpAll K H' vs ds) with
  | non => exact .non
  | bl b => exact .bl b
  | int i => exact .int i
  | str x => exact .str x
  | lst q _ ih => exact .lst (s.seq q) ih
  | tup q _ ih => exact .tup (sqT q) ih
  | nil => exact .nil
  | cons _ _ ih1 ih2 => exact .cons ih1 ih2
end L2

namespace L2
open PySem PySem.Spec PyProof.Rows
def rInDT (K : PySem.W.Frag) : R2 := fun x y H Q => ∃ d ds, Dp K H x d ∧ Dp K H y (.tuple ds) ∧ SeqAt.shaped d = true ∧ SeqAt.shaped (.tuple ds) = true ∧ Q (.bl (ds.any fun z => PyData.eqv z d)) H
theorem op_inDT {X : Cx} (hu : X.A.units + 65 < cLine) : OpR X (compareOp .In) (rInDT X.K) := by
  intro pins s σ H x y v u Q I rx ry h
  obtain ⟨d, ds, hd, he, sd, se, q⟩ := h
  obtain ⟨as, r1⟩ := Dp.reads I d x v hd rx
  obtain ⟨bs, r2⟩ := Dp.reads I (.tuple ds) y u he ry
  exact SeqAt.in_tuple_reads r2 r1 (SeqAt.canLay_of_shaped se) (SeqAt.canLay_of_shaped sd) (room_in_shaped sd hu) ⟨.bl _, H, I, rfl, q⟩
theorem DpAll.length {K : PySem.W.Frag} {H : Hp} : ∀ {vs : List V} {ds : List PyData}, DpAll K H vs ds → vs.length = ds.length
  | _, _, .nil => rfl
  | _, _, .cons _ t => by rw [List.length_cons, List.length_cons, DpAll.length t]
theorem DpAll.get {K : PySem.W.Frag} {H : Hp} : ∀ {vs : List V} {ds : List PyData} {i : Nat} {d : PyData}, DpAll K H vs ds → ds[i]? = some d → ∃ v, vs[i]? = some v ∧ Dp K H v d
  | _, _, _, _, .nil, e => by simp at e
  | _, _, 0, _, .cons h _, e => by simp at e; subst e; exact ⟨_, rfl, h⟩
  | _, _, i + 1, d, .cons _ t, e => by
    obtain ⟨v, h1, h2⟩ := DpAll.get (i := i) (d := d) t (by simpa using e)
    exact ⟨v, by simpa using h1, h2⟩
theorem DpAll.keep {K : PySem.W.Frag} {H H' : Hp} (s : Same H H') : ∀ {vs : List V} {ds : List PyData}, DpAll K H vs ds → DpAll K H' vs ds
  | _, _, .nil => .nil
  | _, _, .cons h t => .cons (h.keep s) (DpAll.keep s t)
theorem Same.sqT {K : PySem.W.Frag} {H H' : Hp} {a : Addr} {xs : List V} (s : Same H H') (q : SqT K H a xs) : SqT K H' a xs := by
  rcases q with (q | ⟨o, q⟩) | q
  · exact .inl (.inl (s _ _ q))
  · exact .inl (.inr ⟨o, s _ _ q⟩)
  · exact .inr q
theorem same_upd {H : Hp} {p : Addr} {o : HO} (hp : H p = none) : Same H (upd H p o) := fun q u hq => by rw [upd_ne (ne_of_none hq hp)]; exact hq
theorem ifF {c : Bool} {A B : Prop} (hc : c = false) (h : B) : if c = true then A else B := by
  rw [hc, if_neg Bool.false_ne_true]
  exact h
theorem ifT {c : Bool} {A B : Prop} (hc : c = true) (h : A) : if c = true then A else B := by
  rw [if_pos hc]
  exact h
/-- isinstance(v, T) of data -/
def isTy (d : PyData) (T : String) : Option Bool := kitB (tyD d) T
theorem is_data {K : PySem.W.Frag} {H : Hp} {v : V} {d : PyData} {T : String} {b : Bool} {Q : VK} (h : Dp K H v d) (e : kitB (tyD d) T = some b) (q : Q (.bl b) H) : rIsi K [v, .ty T] H Q :=
  ⟨v, .ty T, _, _, b, rfl, .ty T, dp_ty h, kit_ty e, q⟩
end L2
namespace K40
open PySem PySem.Spec PyProof.Rows L2 Rg
def isI : D → Bool | .int _ => true | .bool _ => true | _ => false
def isB : D → Bool | .bool _ => true | _ => false
def isS : D → Bool | .str _ => true | _ => false
def isL : D → Bool | .list _ => true | _ => false
section
variable {K : PySem.W.Frag} {H : Hp} {v : V} {d : D}
theorem kit_int (h : Dp K H v d) : kitB (tyD d) "int" = some (isI d) := by cases h <;> kernel_rfl
theorem kit_bool (h : Dp K H v d) : kitB (tyD d) "bool" = some (isB d) := by cases h <;> kernel_rfl
theorem kit_str (h : Dp K H v d) : kitB (tyD d) "str" = some (isS d) := by cases h <;> kernel_rfl
theorem kit_list (h : Dp K H v d) : kitB (tyD d) "list" = some (isL d) := by cases h <;> kernel_rfl
theorem kit_tup (h : Dp K H v d) : kitB (tyD d) "tuple" = some (isT d) := by cases h <;> kernel_rfl
end
def top (i : Nat) : Stmt := PySem.Challenge.pw_openrings_k40_rings_told.main.body.getD i (.Pass ⟨0, 0, 0, 0⟩)
abbrev sWhole : Stmt := top 7
abbrev sPair : Stmt := top 8
abbrev sItem : Stmt := top 9
abbrev sRow : Stmt := top 10
abbrev sKeys : Stmt := top 11
abbrev sItems : Stmt := top 12
abbrev sRing : Stmt := top 13
structure GT (mg : Str → Option Value) : Prop where
  isi : mg "isinstance" = none
  int : mg "int" = none
  bool : mg "bool" = none
  str : mg "str" = none
  tup : mg "tuple" = none
  lst : mg "list" = none
  len : mg "len" = none
  set : mg "set" = none
  all : mg "all" = none
  any : mg "any" = none
  range : mg "range" = none
/-- a def of the text, where it stands and how its arguments bind -/
def Raw (K : PySem.W.Frag) (mg : Str → Option Value) (nm : Str) (st : Stmt) (ps : List Str) : Prop := ∃ (f : Addr) (fd : FuncData), Fun K nm nm st f fd ∧ mg nm = some (.ref f) ∧ Binds K fd ps []
/-- a def that keeps its promise -/
def Def (P : Program) (w : World) (K : PySem.W.Frag) (mg : Str → Option Value) (base : Heap) (CX : CXT) (nm : Str) (k : Nat) (ps : List Str) (sp : Sp) : Prop :=
  ∃ (f : Addr) (fd : FuncData), FnOk P w K mg base CX k f fd ps sp ∧ mg nm = some (.ref f) ∧ PySem.W.keepIn K (.ref f) = true ∧ Binds K fd ps []
theorem Raw.def {P : Program} {w : World} {K : PySem.W.Frag} {mg : Str → Option Value} {base : Heap} {CX : CXT} {nm : Str} {st : Stmt} {ps : List Str} {k : Nat} {sp : Sp} (R : Raw K mg nm st ps) (h : ∀ f fd, Fun K nm nm st f fd → FnOk P w K mg base CX k f fd ps sp) : Def P w K mg base CX nm k ps sp :=
  let ⟨f, fd, F, g, b⟩ := R; ⟨f, fd, h f fd F, g, F.kp, b⟩
def spB (K : PySem.W.Frag) (f : D → Bool) : Sp := fun vs H Q _ => ∃ (v : V) (d : D), vs = [v] ∧ Dp K H v d ∧ ∀ H', Same H H' → Q (.bl (f d)) H'
section
variable {P : Program} {w : World} {K : PySem.W.Frag} {mg : Str → Option Value} {base : Heap}
theorem scWhole : FnScope ["value"] ["value"] (defScope sWhole) := ⟨rfl, rfl, rfl, by decide +kernel, rfl, by decide +kernel, by decide +kernel⟩
theorem ok_whole (R : Raw K mg "is_whole" sWhole ["value"]) (T : GT mg) : Def P w K mg base CX0 "is_whole" 1 ["value"] (spB K wholeD) := by
  refine R.def fun f fd F => ?_
  refine F.ok scWhole (fun vs H Q E h => ?_) (fun cdv A outer s H vs Q E hr h => ?_)
  · obtain ⟨v, d, rfl, _⟩ := h
    rfl
  · obtain ⟨v, d, rfl, hd, k⟩ := h
    refine ⟨_, pss_one (ps_ret (pe_and (pe_callB call_isi (by rfl) T.isi (by decide +kernel) (pa_cons (pv 0) (pa_cons (pe_bltn (v := .ty "int") (by rfl) T.int (by decide +kernel) rfl) pa_nil)))
      (pe_one (pe_not (pe_callB call_isi (by rfl) T.isi (by decide +kernel) (pa_cons (pv 0) (pa_cons (pe_bltn (v := .ty "bool") (by rfl) T.bool (by decide +kernel) rfl) pa_nil))))))), ?_⟩
    obtain ⟨b1, b2, e1, e2, e3⟩ : ∃ b1 b2, kitB (tyD d) "int" = some b1 ∧ kitB (tyD d) "bool" = some b2 ∧ wholeD d = (b1 && !b2) := ⟨_, _, kit_int hd, kit_bool hd, by cases d <;> rfl⟩
    have z := k H (Same.refl _)
    rw [e3] at z
    refine ⟨_, rfl, v, _, _, _, b1, rfl, .ty _, dp_ty hd, kit_ty e1, b1, rfl, ?_⟩
    cases b1 with
    | true => exact iteT ⟨_, rfl, v, _, _, _, b2, rfl, .ty _, dp_ty hd, kit_ty e2, b2, rfl, z⟩
    | false => exact iteF z
theorem dp_tup {K : PySem.W.Frag} {H : Hp} {v : V} {ds : List D} (h : Dp K H v (.tuple ds)) : ∃ a vs, v = .ref a ∧ SqT K H a vs ∧ DpAll K H vs ds := by
  cases h with
  | tup q r => exact ⟨_, _, rfl, q, r⟩
theorem isT_tup {d : D} (h : isT d = true) : ∃ ds, d = .tuple ds := by
  cases d <;> simp [isT] at h
  exact ⟨_, rfl⟩
theorem two {α : Type} {l : List α} (h : l.length = 2) : ∃ x y, l = [x, y] := match l, h with | [x, y], _ => ⟨x, y, rfl⟩
theorem three {α : Type} {l : List α} (h : l.length = 3) : ∃ x y z, l = [x, y, z] := match l, h with | [x, y, z], _ => ⟨x, y, z, rfl⟩
theorem pair_len {ds : List D} (h : ds.length ≠ 2) : prD (.tuple ds) = false := by
  match ds, h with
  | [], _ => rfl
  | [_], _ => simp [prD]
  | [_, _], h => exact absurd rfl h
  | _ :: _ :: _ :: _, _ => simp [prD]
theorem item_len {ds : List D} (h : ds.length ≠ 3) : itemD (.tuple ds) = false := by
  match ds, h with
  | [], _ => rfl
  | [_], _ => simp [itemD]
  | [_, _], _ => simp [itemD]
  | [_, _, _], h => exact absurd rfl h
  | _ :: _ :: _ :: _ :: _, _ => simp [itemD]
theorem pair_eq (x y : D) : prD (.tuple [x, y]) = (wholeD x && (wholeD y && match y with | .int h => decide (0 ≤ h) | _ => false)) := by
  cases x <;> cases y <;> simp [prD, wholeD]
theorem item_eq (x y z : D) : itemD (.tuple [x, y, z]) = (prD (.tuple [x, y]) && wholeD z) := by
  cases x <;> cases y <;> cases z <;> simp [prD, wholeD, itemD]
theorem whole_int {K : PySem.W.Frag} {H : Hp} {v : V} {d : D} (h : Dp K H v d) (w : wholeD d = true) : ∃ i, v = .int i ∧ d = .int i := by
  cases h <;> first | exact ⟨_, rfl, rfl⟩ | cases w
theorem len_ne {n m : Nat} (h : n ≠ m) : (!decide (V.int (n : Int) = V.int (m : Int))) = true := by
  rw [decide_eq_false (fun z => h (by have := V.int.inj z; omega))]; rfl
theorem len_eq {n m : Nat} (h : n = m) : (!decide (V.int (n : Int) = V.int (m : Int))) = false := by
  rw [h, decide_eq_true rfl]; rfl
theorem scPair : FnScope ["value"] ["value"] (defScope sPair) := ⟨rfl, rfl, rfl, by decide +kernel, rfl, by decide +kernel, by decide +kernel⟩
theorem ok_pair (R : Raw K mg "is_pair" sPair ["value"]) (T : GT mg) (DW : Def P w K mg base CX0 "is_whole" 1 ["value"] (spB K wholeD)) : Def P w K mg base CX0 "is_pair" 2 ["value"] (spB K prD) := by
  obtain ⟨fW, dW, GW, gW, kW, bW⟩ := DW
  refine R.def fun f fd F => F.ok scPair (fun vs H Q E h => ?_) (fun cdv A outer s H vs Q E hr h => ?_)
  · obtain ⟨v, d, rfl, _⟩ := h
    rfl
  · obtain ⟨v, d, rfl, hd, k⟩ := h
    refine ⟨_, pss_cons (ps_if (PW.pt (pw_or (pt_not (pt_val (pe_callB call_isi (by rfl) T.isi (by decide +kernel) (pa_cons (pv 0) (pa_cons (pe_bltn (v := .ty "tuple") (by rfl) T.tup (by decide +kernel) rfl) pa_nil)))))
        (pw_or1 (pt_cmpR op_ne (pe_callB call_len_seq (by rfl) T.len PySem.boot_len (pa_cons (pv 0) pa_nil)) pe_int (nomark _))))) (pss_one (ps_ret pe_bl)) pss_nil)
      (pss_one (ps_ret (pe_and (pe_call GW hr (by rfl) gW kW bW .nil pass0 (pa_cons (pe_ix ix_tup (pv 0) pe_int (fun _ _ => rfl)) pa_nil))
        (pe_and (pe_call GW hr (by rfl) gW kW bW .nil pass0 (pa_cons (pe_ix ix_tup (pv 0) pe_int (fun _ _ => rfl)) pa_nil)) (pe_one (pe_cmpR op_ge (pe_ix ix_tup (pv 0) pe_int (fun _ _ => rfl)) pe_int (nomark _))))))), ?_⟩
    refine ⟨_, rfl, v, _, _, _, isT d, rfl, .ty _, dp_ty hd, kit_ty (kit_tup hd), isT d, rfl, ?_⟩
    cases ht : isT d with
    | false =>
      refine iteT ?_
      have z := k H (Same.refl _)
      rw [show prD d = false by cases d <;> first | rfl | cases ht] at z
      exact iteT z
    | true =>
      obtain ⟨ds, rfl⟩ := isT_tup ht
      obtain ⟨a, vs, rfl, sq, dp⟩ := dp_tup hd
      refine iteF ?_
      refine ⟨_, rfl, a, vs, rfl, .inr sq, rfl, _, rfl, ?_⟩
      by_cases hl : vs.length = 2
      · have hl2 : ds.length = 2 := by rw [← dp.length]; exact hl
        obtain ⟨x, y, rfl⟩ := two hl2
        cases dp with
        | cons hx dp => cases dp with
          | cons hy dp => cases dp with
            | nil =>
              rename_i vx vy
              refine ifF (len_eq (n := 2) (m := 2) rfl) ?_
              refine ⟨_, rfl, a, _, 0, vx, rfl, rfl, sq, rfl, vx, x, rfl, hx, fun H1 s1 => ⟨_, rfl, ?_⟩⟩
              cases wx : wholeD x with
              | false =>
                have z := k H1 s1
                rw [pair_eq, wx, Bool.false_and] at z
                exact iteF z
              | true =>
                refine iteT ⟨_, rfl, a, _, 1, vy, rfl, rfl, s1.sqT sq, rfl, vy, y, rfl, hy.keep s1, fun H2 s2 => ⟨_, rfl, ?_⟩⟩
                have z := k H2 (s1.trans s2)
                rw [pair_eq, wx, Bool.true_and] at z
                cases wy : wholeD y with
                | false =>
                  rw [wy, Bool.false_and] at z
                  exact iteF z
                | true =>
                  obtain ⟨i, rfl, rfl⟩ := whole_int hy wy
                  exact iteT ⟨_, rfl, a, _, 1, .int i, rfl, rfl, s2.sqT (s1.sqT sq), rfl, _, _, rfl, rfl, z⟩
      · refine ifT (len_ne (m := 2) hl) ?_
        have z := k H (Same.refl _)
        rw [pair_len (by rw [← dp.length]; exact hl)] at z
        exact z
end
end K40

namespace K40
open PySem PySem.Spec PyProof.Rows L2 Rg
section
variable {P : Program} {w : World} {K : PySem.W.Frag} {mg : Str → Option Value} {base : Heap}
theorem scItem : FnScope ["value"] ["value"] (defScope sItem) := ⟨rfl, rfl, rfl, by decide +kernel, rfl, by decide +kernel, by decide +kernel⟩
theorem ok_item (R : Raw K mg "is_item" sItem ["value"]) (T : GT mg) (DW : Def P w K mg base CX0 "is_whole" 1 ["value"] (spB K wholeD)) (DP : Def P w K mg base CX0 "is_pair" 2 ["value"] (spB K prD)) : Def P w K mg base CX0 "is_item" 3 ["value"] (spB K itemD) := by
  obtain ⟨fW, dW, GW, gW, kW, bW⟩ := DW
  obtain ⟨fP, dP, GP, gP, kP, bP⟩ := DP
  refine R.def fun f fd F => F.ok scItem (fun vs H Q E h => ?_) (fun cdv A outer s H vs Q E hr h => ?_)
  · obtain ⟨v, d, rfl, _⟩ := h
    rfl
  · obtain ⟨v, d, rfl, hd, k⟩ := h
    have hr1 : Room 1 _ := hr.mono (by decide)
    refine ⟨_, pss_cons (ps_if (PW.pt (pw_or (pt_not (pt_val (pe_callB call_isi (by rfl) T.isi (by decide +kernel) (pa_cons (pv 0) (pa_cons (pe_bltn (v := .ty "tuple") (by rfl) T.tup (by decide +kernel) rfl) pa_nil)))))
        (pw_or1 (pt_cmpR op_ne (pe_callB call_len_seq (by rfl) T.len PySem.boot_len (pa_cons (pv 0) pa_nil)) pe_int (nomark _))))) (pss_one (ps_ret pe_bl)) pss_nil)
      (pss_one (ps_ret (pe_and (pe_call GP hr (by rfl) gP kP bP .nil pass0 (pa_cons (pe_slice sl_tup (pv 0) po_none (po_some pe_int)) pa_nil))
        (pe_one (pe_call GW hr1 (by rfl) gW kW bW .nil pass0 (pa_cons (pe_ix ix_tup (pv 0) pe_int (fun _ _ => rfl)) pa_nil)))))), ?_⟩
    refine ⟨_, rfl, v, _, _, _, isT d, rfl, .ty _, dp_ty hd, kit_ty (kit_tup hd), isT d, rfl, ?_⟩
    cases ht : isT d with
    | false =>
      refine iteT ?_
      have z := k H (Same.refl _)
      rw [show itemD d = false by cases d <;> first | rfl | cases ht] at z
      exact iteT z
    | true =>
      obtain ⟨ds, rfl⟩ := isT_tup ht
      obtain ⟨a, vs, rfl, sq, dp⟩ := dp_tup hd
      refine iteF ?_
      refine ⟨_, rfl, a, vs, rfl, .inr sq, rfl, _, rfl, ?_⟩
      by_cases hl : vs.length = 3
      · have hl2 : ds.length = 3 := by rw [← dp.length]; exact hl
        obtain ⟨x, y, c, rfl⟩ := three hl2
        cases dp with
        | cons hx dp => cases dp with
          | cons hy dp => cases dp with
            | cons hc dp => cases dp with
              | nil =>
                rename_i vx vy vc
                refine ifF (len_eq (n := 3) (m := 3) rfl) ?_
                refine ⟨_, rfl, 2, rfl, a, [vx, vy, vc], rfl, sq, (show ¬ (HT.sIx 3 0 none = 0 ∧ HT.sIx 3 3 (some 2) = 3) from by decide), fun p hp => ?_⟩
                have s0 := same_upd (o := .tup (cutV [vx, vy, vc] none (some 2))) hp
                refine ⟨.ref p, .tuple [x, y], rfl, .tup (SqT.of upd_same) (.cons (hx.keep s0) (.cons (hy.keep s0) .nil)), fun H1 s1 => ⟨_, rfl, ?_⟩⟩
                have s01 := s0.trans s1
                cases wx : prD (.tuple [x, y]) with
                | false =>
                  have z := k H1 s01
                  rw [item_eq, wx, Bool.false_and] at z
                  exact iteF z
                | true =>
                  refine iteT ⟨_, rfl, a, _, 2, vc, rfl, rfl, s01.sqT sq, rfl, vc, c, rfl, hc.keep s01, fun H2 s2 => ?_⟩
                  have z := k H2 (s01.trans s2)
                  rw [item_eq, wx, Bool.true_and] at z
                  exact z
      · refine ifT (len_ne (m := 3) hl) ?_
        have z := k H (Same.refl _)
        rw [item_len (by rw [← dp.length]; exact hl)] at z
        exact z
theorem scRow : FnScope ["value"] ["value"] (defScope sRow) := ⟨rfl, rfl, rfl, by decide +kernel, rfl, by decide +kernel, by decide +kernel⟩
theorem ok_row (R : Raw K mg "is_row" sRow ["value"]) (T : GT mg) (hS : ∃ t, mg "STONE" = some (.str "stone" t)) (DI : Def P w K mg base CX0 "is_item" 3 ["value"] (spB K itemD)) : Def P w K mg base CX0 "is_row" 4 ["value"] (spB K rowD) := by
  obtain ⟨fI, dI, GI, gI, kI, bI⟩ := DI
  obtain ⟨tS, gS⟩ := hS
  refine R.def fun f fd F => F.ok scRow (fun vs H Q E h => ?_) (fun cdv A outer s H vs Q E hr h => ?_)
  · obtain ⟨v, d, rfl, _⟩ := h
    rfl
  · obtain ⟨v, d, rfl, hd, k⟩ := h
    refine ⟨_, pss_one (ps_ret (pe_or (pe_cmpR op_isN (pv 0) pe_non (nomark _)) (pe_or (pe_and (pe_callB call_isi (by rfl) T.isi (by decide +kernel) (pa_cons (pv 0) (pa_cons (pe_bltn (v := .ty "str") (by rfl) T.str (by decide +kernel) rfl) pa_nil)))
        (pe_one (pe_cmpR op_eq (pv 0) (pe_glob (v := .str "stone") (by rfl) gS ⟨_, rfl⟩) (nomark _)))) (pe_one (pe_call GI hr (by rfl) gI kI bI .nil pass0 (pa_cons (pv 0) pa_nil)))))), ?_⟩
    have z := k H (Same.refl _)
    refine ⟨_, rfl, rfl, _, rfl, ?_⟩
    have items : itemD d = rowD d → _ := fun e => (fun H' s' => by have z := k H' s'; rw [← e] at z; exact z : ∀ H', Same H H' → Q (.bl (itemD d)) H')
    cases hd with
    | non => exact iteT z
    | bl b => exact iteF ⟨_, rfl, _, _, _, _, isS (.bool b), rfl, .ty _, dp_ty (.bl b), kit_ty (kit_str (K := K) (H := H) (.bl b)), _, rfl, iteF ⟨_, rfl, iteF ⟨_, rfl, _, _, rfl, .bl b, items rfl⟩⟩⟩
    | int i => exact iteF ⟨_, rfl, _, _, _, _, isS (.int i), rfl, .ty _, dp_ty (.int i), kit_ty (kit_str (K := K) (H := H) (.int i)), _, rfl, iteF ⟨_, rfl, iteF ⟨_, rfl, _, _, rfl, .int i, items rfl⟩⟩⟩
    | lst q r => exact iteF ⟨_, rfl, _, _, _, _, false, rfl, .ty _, dp_ty (.lst q r), kit_ty (kit_str (K := K) (H := H) (.lst q r)), _, rfl, iteF ⟨_, rfl, iteF ⟨_, rfl, _, _, rfl, .lst q r, items rfl⟩⟩⟩
    | tup q r => exact iteF ⟨_, rfl, _, _, _, _, false, rfl, .ty _, dp_ty (.tup q r), kit_ty (kit_str (K := K) (H := H) (.tup q r)), _, rfl, iteF ⟨_, rfl, iteF ⟨_, rfl, _, _, rfl, .tup q r, items rfl⟩⟩⟩
    | str x =>
      refine iteF ⟨_, rfl, _, _, _, _, true, rfl, .ty _, dp_ty (.str x), kit_ty (kit_str (K := K) (H := H) (.str x)), _, rfl, iteT ⟨_, rfl, rfl, _, rfl, ?_⟩⟩
      by_cases e : x = "stone"
      · refine ifT (by rw [e]; exact decide_eq_true rfl) ?_
        rw [show rowD (.str x) = true by rw [e]; decide +kernel] at z
        exact z
      · refine ifF (decide_eq_false fun h => e (V.str.inj h)) ?_
        have e2 : (x == ("stone" : Str)) = false := by simpa using e
        refine ⟨_, rfl, _, _, rfl, .str x, items ?_⟩
        show false = (false || (x == ("stone" : Str)) || false)
        rw [e2]; rfl
/-- a list or a tuple -/
def SqX (K : PySem.W.Frag) (H : Hp) (a : Addr) (xs : List V) : Prop := SqL K H a xs ∨ SqT K H a xs
theorem SqX.keep {K : PySem.W.Frag} {H H' : Hp} {a : Addr} {xs : List V} (q : SqX K H a xs) (s : Same H H') : SqX K H' a xs := q.elim (fun h => .inl (s.seq h)) fun h => .inr (s.sqT h)
def spKeys (K : PySem.W.Frag) : Sp := fun vs H Q _ => ∃ (a : Addr) (xs : List V) (ds : List D), vs = [.ref a] ∧ SqX K H a xs ∧ DpAll K H xs ds ∧ (∀ d ∈ ds, itemD d = true) ∧ ds.length ≤ 1000 ∧ ∀ H', Same H H' → Q (.bl (keysDiffer ds)) H'
theorem item_parts {d : D} (h : itemD d = true) : ∃ k x m, d = .tuple [.int k, .int x, .int m] ∧ 0 ≤ x := by
  unfold itemD at h
  split at h
  · rename_i k x m
    exact ⟨k, x, m, rfl, of_decide_eq_true h⟩
  · cases h
theorem dp_item {K : PySem.W.Frag} {H : Hp} {v : V} {k x m : Int} (h : Dp K H v (.tuple [.int k, .int x, .int m])) : ∃ a, v = .ref a ∧ SqT K H a [.int k, .int x, .int m] := by
  obtain ⟨a, vs, rfl, q, r⟩ := dp_tup h
  cases r with
  | cons h1 r => cases r with
    | cons h2 r => cases r with
      | cons h3 r =>
        cases r; cases h1; cases h2; cases h3
        exact ⟨a, rfl, q⟩
theorem scKeys : FnScope ["items", "keys", "item"] ["items"] (defScope sKeys) := ⟨rfl, rfl, rfl, by decide +kernel, rfl, by decide +kernel, by decide +kernel⟩
theorem ok_keys (R : Raw K mg "keys_differ" sKeys ["items"]) (T : GT mg) : Def P w K mg base CX0 "keys_differ" 1 ["items"] (spKeys K) := by
  refine R.def fun f fd F => F.ok scKeys (fun vs H Q E h => ?_) (fun cdv A outer s H vs Q E hr h => ?_)
  · obtain ⟨a, xs, ds, rfl, _⟩ := h
    rfl
  · obtain ⟨a, xs, ds, rfl, sq, dp, hi, hl, k⟩ := h
    have fin : ∀ (H1 : Hp) (D : Addr), Same H H1 → H1 D = some (.lst ((ds.map keyD).map V.int)) → ∃ l ns, V.ref D = .ref l ∧ SqL K H1 l (ns.map V.int) ∧ ns.length ≤ 4000 ∧ (∃ p xs, V.ref D = .ref p ∧ (SqL K H1 p xs ∨ SqT K H1 p xs) ∧ scal (V.int ((FM ns).length : Nat)) (.int (xs.length : Nat)) = true ∧ Q (.bl (decide (V.int ((FM ns).length : Nat) = .int (xs.length : Nat)))) H1) := by
      intro H1 D s1 hD
      refine ⟨D, ds.map keyD, rfl, SqL.of hD, by rw [List.length_map]; omega, D, _, rfl, .inl (SqL.of hD), rfl, ?_⟩
      have z := k H1 s1
      have e : decide (V.int ((FM (ds.map keyD)).length : Nat) = .int (((ds.map keyD).map V.int).length : Nat)) = keysDiffer ds := by
        unfold keysDiffer
        refine decide_eq_decide.mpr ?_
        rw [List.length_map, ← fm_nodup]
        exact ⟨fun h => by have := V.int.inj h; omega, fun h => by rw [h]⟩
      rw [e]
      exact z
    have turn : ∀ (i : Nat) (x : V) (H1 : Hp) (D : Addr), xs[i]? = some x → Same H H1 → ∃ d a', ds[i]? = some d ∧ x = .ref a' ∧ SqT K H1 a' [.int (keyD d), .int (hashD d), .int (match d with | .tuple [_, _, .int m] => m | _ => 0)] := by
      intro i x H1 D hx s1
      have hlt : i < ds.length := by rw [← dp.length]; exact (List.getElem?_eq_some_iff.mp hx).1
      obtain ⟨v, h1, h2⟩ := dp.get (i := i) (List.getElem?_eq_getElem hlt)
      rw [hx] at h1
      cases h1
      obtain ⟨kk, hh, mm, e, _⟩ := item_parts (hi _ (List.getElem_mem hlt))
      rw [e] at h2
      obtain ⟨a', rfl, q⟩ := dp_item h2
      exact ⟨_, a', List.getElem?_eq_getElem hlt, rfl, by rw [e]; exact s1.sqT q⟩
    have more : ∀ (i : Nat) (d : D), ds[i]? = some d → ((ds.take (i + 1)).map keyD).map V.int = ((ds.take i).map keyD).map V.int ++ [.int (keyD d)] := fun i d h => by
      rw [List.take_add_one, h]
      simp
    rcases sq with sq | sq
    · refine ⟨_, pss_cons (ps_setLc (i := 1) (own := [("item", 2)]) (g := gName 2) (tt := tYes) rfl scKeys.nd rfl rfl (sw_true rfl rfl rfl (by decide +kernel)) (pi_list (pv 0)) (blkOk_by (own := [("item", 2)]) (N := ["items", "keys", "item"]) (sc := defScope sKeys) (by decide +kernel))
          (fun _ _ _ _ _ => pg_name (i := 2) scKeys.nd rfl (Or.inl rfl)) (fun _ _ _ _ _ => pts_nil) (fun _ _ _ _ _ => pe_ix (show IxR _ (rIxT K) from ix_tup) (pv 2) pe_int (fun _ _ => rfl)))
        (pss_one (ps_ret (pe_cmpR op_eq (pe_lenSetA (by rfl) T.len (by rfl) T.set (pv 1)) (pe_callB call_len_seq (by rfl) T.len PySem.boot_len (pa_cons (pv 1) pa_nil)) (nomark _)))), ?_⟩
      refine ⟨_, rfl, a, rfl, ⟨_, sq⟩, fun D hD => lc_list (K := K) (a := a) (xs := xs) (fun i H' => Same H H' ∧ H' D = some (.lst (((ds.take i).map keyD).map V.int))) ⟨same_upd hD, upd_same⟩ (fun i H' _ h => h.1.seq sq) ?_ ?_⟩
      · rintro i x H1 hx ⟨s1, h1⟩
        obtain ⟨d, a', hd, rfl, q⟩ := turn i x H1 D hx s1
        refine ⟨rfl, _, rfl, a', _, 0, _, rfl, rfl, q, rfl, _, h1, ?_, fun y o hy => ?_, ?_⟩
        · rw [List.length_map, List.length_map, List.length_take, sizeLine_eq]; omega
        · rw [upd_ne (ne_of_none hy hD)]; exact s1 y o hy
        · rw [upd_same, more i d hd]
      · rintro H1 ⟨s1, h1⟩
        rw [dp.length, List.take_length] at h1
        obtain ⟨l, ns, e1, e2, e3, p, ys, e4, e5, e6, e7⟩ := fin H1 D s1 h1
        exact ⟨_, rfl, l, ns, e1, e2, e3, _, rfl, p, ys, congrArg (fun z => [z]) e4, e5, e6, e7⟩
    · refine ⟨_, pss_cons (ps_setLc (i := 1) (own := [("item", 2)]) (g := gName 2) (tt := tYes) rfl scKeys.nd rfl rfl (sw_true rfl rfl rfl (by decide +kernel)) (pi_tup (pv 0)) (blkOk_by (own := [("item", 2)]) (N := ["items", "keys", "item"]) (sc := defScope sKeys) (by decide +kernel))
          (fun _ _ _ _ _ => pg_name (i := 2) scKeys.nd rfl (Or.inl rfl)) (fun _ _ _ _ _ => pts_nil) (fun _ _ _ _ _ => pe_ix (show IxR _ (rIxT K) from ix_tup) (pv 2) pe_int (fun _ _ => rfl)))
        (pss_one (ps_ret (pe_cmpR op_eq (pe_lenSetA (by rfl) T.len (by rfl) T.set (pv 1)) (pe_callB call_len_seq (by rfl) T.len PySem.boot_len (pa_cons (pv 1) pa_nil)) (nomark _)))), ?_⟩
      refine ⟨_, rfl, a, rfl, ⟨_, sq⟩, fun D hD => lc_tup (K := K) (a := a) (xs := xs) (fun i H' => Same H H' ∧ H' D = some (.lst (((ds.take i).map keyD).map V.int))) ⟨same_upd hD, upd_same⟩ (fun i H' _ h => h.1.sqT sq) ?_ ?_⟩
      · rintro i x H1 hx ⟨s1, h1⟩
        obtain ⟨d, a', hd, rfl, q⟩ := turn i x H1 D hx s1
        refine ⟨rfl, _, rfl, a', _, 0, _, rfl, rfl, q, rfl, _, h1, ?_, fun y o hy => ?_, ?_⟩
        · rw [List.length_map, List.length_map, List.length_take, sizeLine_eq]; omega
        · rw [upd_ne (ne_of_none hy hD)]; exact s1 y o hy
        · rw [upd_same, more i d hd]
      · rintro H1 ⟨s1, h1⟩
        rw [dp.length, List.take_length] at h1
        obtain ⟨l, ns, e1, e2, e3, p, ys, e4, e5, e6, e7⟩ := fin H1 D s1 h1
        exact ⟨_, rfl, l, ns, e1, e2, e3, _, rfl, p, ys, congrArg (fun z => [z]) e4, e5, e6, e7⟩
end
end K40

namespace K40
open PySem PySem.Spec PyProof.Rows L2 Rg
section
variable {P : Program} {w : World} {K : PySem.W.Frag} {mg : Str → Option Value} {base : Heap}
def spItems (K : PySem.W.Frag) : Sp := fun vs H Q _ => ∃ (a : Addr) (xs : List V) (ds : List D), vs = [.ref a] ∧ SqT K H a xs ∧ DpAll K H xs ds ∧ ds.length ≤ 1000 ∧
  ∀ (p : Addr) (ys : List V) (H' : Hp), H p = none → H' p = some (.lst ys) → DpAll K H' ys (ds.filter isT) → Same H H' → Q (.ref p) H'
theorem take_more {α : Type} {l : List α} {i : Nat} {x : α} (h : l[i]? = some x) : l.take (i + 1) = l.take i ++ [x] := by
  rw [List.take_add_one, h]; rfl
theorem DpAll.snoc {K : PySem.W.Frag} {H : Hp} : ∀ {vs : List V} {ds : List PyData} {v : V} {d : PyData}, DpAll K H vs ds → Dp K H v d → DpAll K H (vs ++ [v]) (ds ++ [d])
  | _, _, _, _, .nil, h => .cons h .nil
  | _, _, _, _, .cons x t, h => .cons x (DpAll.snoc t h)
theorem dp_at {K : PySem.W.Frag} {H : Hp} {xs : List V} {ds : List PyData} {i : Nat} {x : V} (dp : DpAll K H xs ds) (h : xs[i]? = some x) : ∃ d, ds[i]? = some d ∧ Dp K H x d := by
  have hlt : i < ds.length := by rw [← dp.length]; exact (List.getElem?_eq_some_iff.mp h).1
  obtain ⟨v, h1, h2⟩ := dp.get (i := i) (List.getElem?_eq_getElem hlt)
  rw [h] at h1
  cases h1
  exact ⟨_, List.getElem?_eq_getElem hlt, h2⟩
theorem scItems : FnScope ["rows", "row"] ["rows"] (defScope sItems) := ⟨rfl, rfl, rfl, by decide +kernel, rfl, by decide +kernel, by decide +kernel⟩
theorem ok_items (R : Raw K mg "items_of" sItems ["rows"]) (T : GT mg) : Def P w K mg base CX0 "items_of" 1 ["rows"] (spItems K) := by
  refine R.def fun f fd F => F.ok scItems (fun vs H Q E h => ?_) (fun cdv A outer s H vs Q E hr h => ?_)
  · obtain ⟨a, xs, ds, rfl, _⟩ := h
    rfl
  · obtain ⟨a, xs, ds, rfl, sq, dp, hl, k⟩ := h
    refine ⟨_, pss_one (ps_ret (pe_lc (own := [("row", 1)]) (g := gName 1) (tt := tTest (tCB (rIsi K) (tCons (tVar 1) (tCons (tC (.ty "tuple")) tNil)))) rfl scItems.nd (pi_tup (pv 0)) (blkOk_by (own := [("row", 1)]) (N := ["rows", "row"]) (sc := defScope sItems) (by decide +kernel))
          (fun _ _ _ _ _ => pg_name (i := 1) scItems.nd rfl (Or.inl rfl)) (fun _ _ _ _ _ => pts_one (pt_val (pe_callB (show CallR _ _ (rIsi K) from call_isi) (by rfl) T.isi (by decide +kernel) (pa_cons (pv 1) (pa_cons (pe_bltn (v := .ty "tuple") (by rfl) T.tup (by decide +kernel) rfl) pa_nil))))) (fun _ _ _ _ _ => pv 1))), ?_⟩
    refine ⟨_, rfl, a, rfl, ⟨_, sq⟩, fun D hD => lc_tup (K := K) (a := a) (xs := xs) (fun i H' => Same H H' ∧ ∃ ys, H' D = some (.lst ys) ∧ DpAll K H ys ((ds.take i).filter isT)) ⟨same_upd hD, [], upd_same, .nil⟩ (fun i H' _ h => h.1.sqT sq) ?_ ?_⟩
    · rintro i x H1 hx ⟨s1, ys, h1, d1⟩
      obtain ⟨d, hd, dx⟩ := dp_at dp hx
      have dx1 := dx.keep s1
      refine ⟨rfl, _, rfl, x, _, _, _, isT d, rfl, .ty _, dp_ty dx1, kit_ty (kit_tup dx1), isT d, rfl, ?_⟩
      cases ht : isT d with
      | true =>
        refine iteT ⟨_, rfl, ys, h1, ?_, ?_⟩
        · have := d1.length
          have := List.length_filter_le isT (ds.take i)
          have := List.length_take (i := i) (l := ds)
          have : ds.length ≤ 1000 := hl
          rw [sizeLine_eq]; omega
        · have su : Same H (upd H1 D (.lst (ys ++ [x]))) := fun y o hy => by rw [upd_ne (ne_of_none hy hD)]; exact s1 y o hy
          refine ⟨su, _, upd_same, ?_⟩
          rw [take_more hd, List.filter_append, List.filter_cons_of_pos ht]
          exact DpAll.snoc d1 dx
      | false =>
        refine iteF ⟨s1, ys, h1, ?_⟩
        rw [take_more hd, List.filter_append, List.filter_cons_of_neg (by rw [ht]; decide)]
        simpa using d1
    · rintro H1 ⟨s1, ys, h1, d1⟩
      rw [dp.length, List.take_length] at d1
      exact k D ys H1 hD h1 (d1.keep s1) s1
end
end K40

namespace K40
open PySem PySem.Spec PyProof.Rows L2 Rg
section
variable {P : Program} {w : World} {K : PySem.W.Frag} {mg : Str → Option Value} {base : Heap}
/-- of data that is no tuple of more than 1000 items -/
def Short (d : D) : Prop := ∀ ds, d = .tuple ds → ds.length ≤ 1000
def spS (K : PySem.W.Frag) (f : D → Bool) : Sp := fun vs H Q _ => ∃ (v : V) (d : D), vs = [v] ∧ Dp K H v d ∧ Short d ∧ ∀ H', Same H H' → Q (.bl (f d)) H'
theorem all_map {α : Type} (f : α → Bool) (l : List α) : (l.map f).all id = l.all f := by induction l <;> simp_all
theorem any_map {α : Type} (f : α → Bool) (l : List α) : (l.map f).any id = l.any f := by induction l <;> simp_all
theorem scRing : FnScope ["value", "row"] ["value"] (defScope sRing) := ⟨rfl, rfl, rfl, by decide +kernel, rfl, by decide +kernel, by decide +kernel⟩
theorem filter_items {ds : List D} (h : ds.all rowD = true) : ∀ d ∈ ds.filter isT, itemD d = true := fun d hd => by
  obtain ⟨h1, h2⟩ := List.mem_filter.mp hd
  have := List.all_eq_true.mp h d h1
  unfold rowD at this
  rw [isT_emp h2] at this
  have e : stoneD d = false := by cases d <;> first | rfl | cases h2
  rw [e] at this
  simpa using this
theorem ok_ring (R : Raw K mg "is_ring" sRing ["value"]) (T : GT mg) (DR : Def P w K mg base CX0 "is_row" 4 ["value"] (spB K rowD)) (DK : Def P w K mg base CX0 "keys_differ" 1 ["items"] (spKeys K)) (DI : Def P w K mg base CX0 "items_of" 1 ["rows"] (spItems K)) : Def P w K mg base CX0 "is_ring" 5 ["value"] (spS K ringD) := by
  obtain ⟨fR, dR, GR, gR, kR, bR⟩ := DR
  obtain ⟨fK, dK, GK, gK, kK, bK⟩ := DK
  obtain ⟨fI, dI, GI, gI, kI, bI⟩ := DI
  refine R.def fun f fd F => F.ok scRing (fun vs H Q E h => ?_) (fun cdv A outer s H vs Q E hr h => ?_)
  · obtain ⟨v, d, rfl, _⟩ := h
    rfl
  · obtain ⟨v, d, rfl, hd, hS, k⟩ := h
    have hr1 : Room 1 _ := hr.mono (by decide)
    refine ⟨_, pss_cons (ps_if (PW.pt (pw_or (pt_not (pt_val (pe_callB call_isi (by rfl) T.isi (by decide +kernel) (pa_cons (pv 0) (pa_cons (pe_bltn (v := .ty "tuple") (by rfl) T.tup (by decide +kernel) rfl) pa_nil)))))
        (pw_or1 (pt_not (pt_val (pe_callB (cr_all rfl) (by rfl) T.all (by decide +kernel) (pa_cons (pe_lc (own := [("row", 1)]) (g := gName 1) (tt := tYes) (te := tCall (spB K rowD) [] E (tCons (tVar 1) tNil)) rfl scRing.nd (pi_tup (pv 0)) (blkOk_by (own := [("row", 1)]) (N := ["value", "row"]) (sc := defScope sRing) (by decide +kernel))
          (fun _ _ _ _ _ => pg_name (i := 1) scRing.nd rfl (Or.inl rfl)) (fun _ _ _ _ _ => pts_nil) (fun _ _ _ _ _ => pe_call GR hr (by rfl) gR kR bR .nil pass0 (pa_cons (pv 1) pa_nil))) pa_nil)))))))
        (pss_one (ps_ret pe_bl)) pss_nil)
      (pss_one (ps_ret (pe_and (pe_callB (cr_any rfl) (by rfl) T.any (by decide +kernel) (pa_cons (pe_lc (own := [("row", 1)]) (g := gName 1) (tt := tYes) rfl scRing.nd (pi_tup (pv 0)) (blkOk_by (own := [("row", 1)]) (N := ["value", "row"]) (sc := defScope sRing) (by decide +kernel))
          (fun _ _ _ _ _ => pg_name (i := 1) scRing.nd rfl (Or.inl rfl)) (fun _ _ _ _ _ => pts_nil) (fun _ _ _ _ _ => pe_cmpR (show OpR _ _ _ from op_isN) (pv 1) pe_non (nomark _))) pa_nil))
        (pe_one (pe_call GK hr1 (by rfl) gK kK bK .nil pass0 (pa_cons (pe_call GI hr1 (by rfl) gI kI bI .nil pass0 (pa_cons (pv 0) pa_nil)) pa_nil)))))), ?_⟩
    refine ⟨_, rfl, v, _, _, _, isT d, rfl, .ty _, dp_ty hd, kit_ty (kit_tup hd), isT d, rfl, ?_⟩
    cases ht : isT d with
    | false =>
      refine iteT ?_
      have z := k H (Same.refl _)
      rw [show ringD d = false by cases d <;> first | rfl | cases ht] at z
      exact iteT z
    | true =>
      obtain ⟨ds, rfl⟩ := isT_tup ht
      have hl := hS ds rfl
      obtain ⟨a, vs, rfl, sq, dp⟩ := dp_tup hd
      refine iteF ?_
      refine ⟨_, rfl, a, rfl, ⟨_, sq⟩, fun D hD => lc_tup (K := K) (a := a) (xs := vs) (fun i H' => Same H H' ∧ H' D = some (.lst ((ds.take i).map fun d => V.bl (rowD d)))) ⟨same_upd hD, upd_same⟩ (fun i H' _ h => h.1.sqT sq) ?_ ?_⟩
      · rintro i x H1 hx ⟨s1, h1⟩
        obtain ⟨d, hd, dx⟩ := dp_at dp hx
        refine ⟨rfl, _, rfl, x, d, rfl, dx.keep s1, fun H2 s2 => ?_⟩
        have h2 := s2 D _ h1
        refine ⟨_, h2, ?_, fun y o hy => ?_, ?_⟩
        · rw [List.length_map, List.length_take, sizeLine_eq]; omega
        · rw [upd_ne (ne_of_none hy hD)]; exact s2 y o (s1 y o hy)
        · rw [upd_same, take_more hd, List.map_append]; rfl
      · rintro H1 ⟨s1, h1⟩
        rw [dp.length, List.take_length] at h1
        refine ⟨D, ds.map rowD, rfl, ?_, ?_⟩
        · refine SqL.of (h1.trans ?_)
          rw [List.map_map]; rfl
        rw [all_map]
        cases hal : ds.all rowD with
        | false =>
          refine ⟨_, rfl, iteT ?_⟩
          have z := k H1 s1
          rw [show ringD (.tuple ds) = (ds.all rowD && (ds.any emp && keysDiffer (ds.filter isT))) from rfl, hal] at z
          exact z
        | true =>
          refine ⟨_, rfl, iteF ?_⟩
          refine ⟨_, rfl, a, rfl, ⟨_, s1.sqT sq⟩, fun D2 hD2 => lc_tup (K := K) (a := a) (xs := vs) (fun i H' => Same H1 H' ∧ H' D2 = some (.lst ((ds.take i).map fun d => V.bl (emp d)))) ⟨same_upd hD2, upd_same⟩ (fun i H' _ h => h.1.sqT (s1.sqT sq)) ?_ ?_⟩
          · rintro i x H2 hx ⟨s2, h2⟩
            obtain ⟨d, hd, dx⟩ := dp_at dp hx
            refine ⟨rfl, _, rfl, rfl, _, h2, ?_, fun y o hy => ?_, ?_⟩
            · rw [List.length_map, List.length_take, sizeLine_eq]; omega
            · rw [upd_ne (ne_of_none hy hD2)]; exact s2 y o hy
            · rw [upd_same, take_more hd, List.map_append]
              refine congrArg (fun z => some (HO.lst (_ ++ [V.bl z]))) ?_
              cases dx <;> rfl
          · rintro H2 ⟨s2, h2⟩
            rw [dp.length, List.take_length] at h2
            refine ⟨D2, ds.map emp, rfl, ?_, ?_⟩
            · refine SqL.of (h2.trans ?_)
              rw [List.map_map]; rfl
            rw [any_map]
            have s12 := s1.trans s2
            cases han : ds.any emp with
            | false =>
              have z := k H2 s12
              rw [show ringD (.tuple ds) = (ds.all rowD && (ds.any emp && keysDiffer (ds.filter isT))) from rfl, hal, han] at z
              exact ⟨_, rfl, iteF z⟩
            | true =>
              refine ⟨_, rfl, iteT ⟨_, rfl, a, vs, ds, rfl, s12.sqT sq, DpAll.keep s12 dp, hl, fun p ys H3 hp h3 dp3 s3 => ⟨p, ys, _, rfl, .inl (SqL.of h3), dp3, filter_items hal, Nat.le_trans (List.length_filter_le _ _) hl, fun H4 s4 => ?_⟩⟩⟩
              have z := k H4 ((s12.trans s3).trans s4)
              rw [show ringD (.tuple ds) = (ds.all rowD && (ds.any emp && keysDiffer (ds.filter isT))) from rfl, hal, han] at z
              exact z
end
end K40

namespace K40
open PySem PySem.Spec PyProof.Rows L2 Rg PySem.RingX
abbrev sWay : Stmt := top 14
abbrev sCkR : Stmt := top 15
abbrev sCkW : Stmt := top 16
abbrev sHome : Stmt := top 17
abbrev sDist : Stmt := top 18
abbrev sGap : Stmt := top 19
def wayV : List V := [.str "plain", .str "stones", .str "sorted"]
def wayD : D → Bool | .str x => inV (.str x) wayV | _ => false
/-- an error with one field is raised -/
def Rz (C : Addr) (f : Str) (v : V) (H : Hp) (E : XK) : Prop := ∀ H' dd, Same H H' → H' dd = none → E (.ref C) (some dd) (upd H' dd (.xd (xdl [f] [v])))
theorem Rz.keep {C : Addr} {f : Str} {v : V} {H H1 : Hp} {E : XK} (x : Rz C f v H E) (s : Same H H1) : Rz C f v H1 E := fun H' dd s1 n => x H' dd (s.trans s1) n
def spCk (K : PySem.W.Frag) (C : Addr) (fl : Str) (f : D → Bool) : Sp := fun vs H Q E => ∃ (v : V) (d : D), vs = [v] ∧ Dp K H v d ∧ Short d ∧ (f d = true → ∀ H', Same H H' → Q .non H') ∧ (f d = false → Rz C fl v H E)
structure EX (P : Program) (K : PySem.W.Frag) (mg : Str → Option Value) (CW CR fW fR : Addr) : Prop where
  way : ExTxt P K mg CW fW "BadWay" ["way"]
  ring : ExTxt P K mg CR fR "BadRing" ["ring"]
section
variable {P : Program} {w : World} {K : PySem.W.Frag} {mg : Str → Option Value} {base : Heap} {CW CR fW fR : Addr}
theorem scWay : FnScope ["value"] ["value"] (defScope sWay) := ⟨rfl, rfl, rfl, by decide +kernel, rfl, by decide +kernel, by decide +kernel⟩
/-- WAYS is a tuple of the top -/
def WaysAt (K : PySem.W.Frag) (mg : Str → Option Value) : Prop := ∃ a, mg "WAYS" = some (.ref a) ∧ ∀ H, SqT K H a wayV
theorem wayD_str {d : D} (h : isS d = false) : wayD d = false := by cases d <;> first | rfl | cases h
theorem ok_way (R : Raw K mg "is_way" sWay ["value"]) (T : GT mg) (hW : WaysAt K mg) : Def P w K mg base CX0 "is_way" 1 ["value"] (spB K wayD) := by
  obtain ⟨aW, gW, dW⟩ := hW
  refine R.def fun f fd F => F.ok scWay (fun vs H Q E h => ?_) (fun cdv A outer s H vs Q E hr h => ?_)
  · obtain ⟨v, d, rfl, _⟩ := h
    rfl
  · obtain ⟨v, d, rfl, hd, k⟩ := h
    refine ⟨_, pss_one (ps_ret (pe_and (pe_callB call_isi (by rfl) T.isi (by decide +kernel) (pa_cons (pv 0) (pa_cons (pe_bltn (v := .ty "str") (by rfl) T.str (by decide +kernel) rfl) pa_nil)))
        (pe_one (pe_cmpR op_in_seq (pv 0) (pe_glob (v := .ref aW) (by rfl) gW rfl) (by rfl))))), ?_⟩
    have z := k H (Same.refl _)
    refine ⟨_, rfl, v, _, _, _, isS d, rfl, .ty _, dp_ty hd, kit_ty (kit_str hd), _, rfl, ?_⟩
    cases hs : isS d with
    | false =>
      rw [wayD_str hs] at z
      exact iteF z
    | true =>
      cases hd <;> first | cases hs | skip
      exact iteT ⟨_, rfl, aW, wayV, rfl, .inr (dW H), rfl, by kernel_rfl, z⟩
theorem scCkR : FnScope ["ring"] ["ring"] (defScope sCkR) := ⟨rfl, rfl, rfl, by decide +kernel, rfl, by decide +kernel, by decide +kernel⟩
theorem ok_ckR (R : Raw K mg "check_ring" sCkR ["ring"]) (X : EX P K mg CW CR fW fR) (DR : Def P w K mg base CX0 "is_ring" 5 ["value"] (spS K ringD)) : Def P w K mg base (L2.CX P w) "check_ring" 6 ["ring"] (spCk K CR "ring" ringD) := by
  obtain ⟨fR, dR, GR, gR, kR, bR⟩ := DR
  refine R.def fun f fd F => F.okX scCkR (fun vs H Q E h => ?_) (fun cdv A outer s H vs Q E hr h => ?_)
  · obtain ⟨v, d, rfl, _⟩ := h
    rfl
  · obtain ⟨v, d, rfl, hd, hS, k1, k2⟩ := h
    have hr1 : Room 1 _ := hr.mono (by decide)
    refine ⟨_, pss_one (ps_if (pt_not (pt_val (pe_call GR hr (by rfl) gR kR bR .nil pass0 (pa_cons (pv 0) pa_nil)))) (pss_one (ps_raiseX rfl X.ring hr1 (takes_of rfl rfl rfl rfl) (pa_cons (pv 0) pa_nil))) pss_nil), ?_⟩
    refine ⟨_, rfl, v, d, rfl, hd, hS, fun H1 s1 => ⟨_, rfl, ?_⟩⟩
    cases e : ringD d with
    | true => exact iteF (k1 e H1 s1)
    | false => exact iteT ⟨_, rfl, rfl, fun h => (nomatch h), fun _ dd hd => k2 e H1 dd s1 hd⟩
theorem scCkW : FnScope ["way"] ["way"] (defScope sCkW) := ⟨rfl, rfl, rfl, by decide +kernel, rfl, by decide +kernel, by decide +kernel⟩
theorem ok_ckW (R : Raw K mg "check_way" sCkW ["way"]) (X : EX P K mg CW CR fW fR) (DR : Def P w K mg base CX0 "is_way" 1 ["value"] (spB K wayD)) : Def P w K mg base (L2.CX P w) "check_way" 2 ["way"] (spCk K CW "way" wayD) := by
  obtain ⟨fR, dR, GR, gR, kR, bR⟩ := DR
  refine R.def fun f fd F => F.okX scCkW (fun vs H Q E h => ?_) (fun cdv A outer s H vs Q E hr h => ?_)
  · obtain ⟨v, d, rfl, _⟩ := h
    rfl
  · obtain ⟨v, d, rfl, hd, hS, k1, k2⟩ := h
    refine ⟨_, pss_one (ps_if (pt_not (pt_val (pe_call GR hr (by rfl) gR kR bR .nil pass0 (pa_cons (pv 0) pa_nil)))) (pss_one (ps_raiseX rfl X.way hr (takes_of rfl rfl rfl rfl) (pa_cons (pv 0) pa_nil))) pss_nil), ?_⟩
    refine ⟨_, rfl, v, d, rfl, hd, fun H1 s1 => ⟨_, rfl, ?_⟩⟩
    cases e : wayD d with
    | true => exact iteF (k1 e H1 s1)
    | false => exact iteT ⟨_, rfl, rfl, fun h => (nomatch h), fun _ dd hd => k2 e H1 dd s1 hd⟩
def spHome (K : PySem.W.Frag) : Sp := fun vs H Q _ => ∃ (a : Addr) (k x c m : Int), vs = [.ref a, .int m] ∧ SqT K H a [.int k, .int x, .int c] ∧ 0 < m ∧ Q (.int (x % m)) H
theorem scHome : FnScope ["item", "many"] ["item", "many"] (defScope sHome) := ⟨rfl, rfl, rfl, by decide +kernel, rfl, by decide +kernel, by decide +kernel⟩
theorem ok_home (R : Raw K mg "home" sHome ["item", "many"]) : Def P w K mg base CX0 "home" 1 ["item", "many"] (spHome K) := by
  refine R.def fun f fd F => F.ok scHome (fun vs H Q E h => ?_) (fun cdv A outer s H vs Q E hr h => ?_)
  · obtain ⟨a, k, x, c, m, rfl, _⟩ := h
    rfl
  · obtain ⟨a, k, x, c, m, rfl, sq, hm, q⟩ := h
    refine ⟨_, pss_one (ps_ret (pe_op op_mod (pe_ix ix_tup (pv 0) pe_int (fun _ _ => rfl)) (pv 1))), ?_⟩
    exact ⟨_, rfl, a, _, 1, .int x, rfl, rfl, sq, rfl, _, rfl, _, _, rfl, rfl, hm, q⟩
def spDist : Sp := fun vs H Q _ => ∃ (i j m : Int), vs = [.int i, .int j, .int m] ∧ 0 < m ∧ Q (.int ((j - i) % m)) H
theorem scDist : FnScope ["one", "other", "many"] ["one", "other", "many"] (defScope sDist) := ⟨rfl, rfl, rfl, by decide +kernel, rfl, by decide +kernel, by decide +kernel⟩
theorem ok_dist (R : Raw K mg "distance" sDist ["one", "other", "many"]) : Def P w K mg base CX0 "distance" 1 ["one", "other", "many"] spDist := by
  refine R.def fun f fd F => F.ok scDist (fun vs H Q E h => ?_) (fun cdv A outer s H vs Q E hr h => ?_)
  · obtain ⟨i, j, m, rfl, _⟩ := h
    rfl
  · obtain ⟨i, j, m, rfl, hm, q⟩ := h
    refine ⟨_, pss_one (ps_ret (pe_op op_mod (pe_op op_sub (pv 1) (pv 0)) (pv 2))), ?_⟩
    exact ⟨_, rfl, _, rfl, _, _, rfl, rfl, _, rfl, _, _, rfl, rfl, hm, q⟩
def spGap (K : PySem.W.Frag) : Sp := fun vs H Q _ => ∃ (a b : Addr) (xs : List V) (r : Nat) (k x c : Int), vs = [.ref a, .int r] ∧ SqX K H a xs ∧ xs[r]? = some (.ref b) ∧ SqT K H b [.int k, .int x, .int c] ∧ Q (.int ((r - x) % (xs.length : Int))) H
theorem scGap : FnScope ["rows", "row"] ["rows", "row"] (defScope sGap) := ⟨rfl, rfl, rfl, by decide +kernel, rfl, by decide +kernel, by decide +kernel⟩
theorem ok_gap (R : Raw K mg "gap" sGap ["rows", "row"]) (T : GT mg) (DH : Def P w K mg base CX0 "home" 1 ["item", "many"] (spHome K)) (DD : Def P w K mg base CX0 "distance" 1 ["one", "other", "many"] spDist) : Def P w K mg base CX0 "gap" 2 ["rows", "row"] (spGap K) := by
  obtain ⟨fH, dH, GH, gH, kH, bH⟩ := DH
  obtain ⟨fD, dD, GD, gD, kD, bD⟩ := DD
  refine R.def fun f fd F => F.ok scGap (fun vs H Q E h => ?_) (fun cdv A outer s H vs Q E hr h => ?_)
  · obtain ⟨a, b, xs, r, k, x, c, rfl, _⟩ := h
    rfl
  · obtain ⟨a, b, xs, r, k, x, c, rfl, sq, hx, sb, q⟩ := h
    have hm : (0 : Int) < (xs.length : Nat) := by have := (List.getElem?_eq_some_iff.mp hx).1; omega
    have e : ((r : Int) - x % (xs.length : Int)) % (xs.length : Int) = (r - x) % (xs.length : Int) := by rw [Int.sub_emod, Int.emod_emod_of_dvd _ (Int.dvd_refl _), ← Int.sub_emod]
    rw [← e] at q
    rcases sq with sq | sq
    · refine ⟨_, pss_one (ps_ret (pe_call GD hr (by rfl) gD kD bD .nil pass0 (pa_cons (pe_call GH hr (by rfl) gH kH bH .nil pass0 (pa_cons (pe_ix ix_list (pv 0) (pv 1) (fun _ _ => rfl)) (pa_cons (pe_callB call_len_seq (by rfl) T.len PySem.boot_len (pa_cons (pv 0) pa_nil)) pa_nil))) (pa_cons (pv 1) (pa_cons (pe_callB call_len_seq (by rfl) T.len PySem.boot_len (pa_cons (pv 0) pa_nil)) pa_nil))))), ?_⟩
      exact ⟨_, rfl, _, rfl, a, xs, _, _, rfl, rfl, sq, atI_nat hx, _, rfl, a, xs, rfl, .inl sq, b, k, x, c, _, rfl, sb, hm, _, rfl, _, rfl, a, xs, rfl, .inl sq, _, _, _, rfl, hm, q⟩
    · refine ⟨_, pss_one (ps_ret (pe_call GD hr (by rfl) gD kD bD .nil pass0 (pa_cons (pe_call GH hr (by rfl) gH kH bH .nil pass0 (pa_cons (pe_ix ix_tup (pv 0) (pv 1) (fun _ _ => rfl)) (pa_cons (pe_callB call_len_seq (by rfl) T.len PySem.boot_len (pa_cons (pv 0) pa_nil)) pa_nil))) (pa_cons (pv 1) (pa_cons (pe_callB call_len_seq (by rfl) T.len PySem.boot_len (pa_cons (pv 0) pa_nil)) pa_nil))))), ?_⟩
      exact ⟨_, rfl, _, rfl, a, xs, _, _, rfl, rfl, sq, atI_nat hx, _, rfl, a, xs, rfl, .inr sq, b, k, x, c, _, rfl, sb, hm, _, rfl, _, rfl, a, xs, rfl, .inr sq, _, _, _, rfl, hm, q⟩
end
end K40

namespace L2
open PySem PySem.Spec PyProof.Rows
theorem del_upd {H : Hp} {p : Addr} {o : HO} : del (upd H p o) p = del H p := by
  funext b
  by_cases e : b = p
  · rw [e, del_same, del_same]
  · rw [del_ne e, del_ne e, upd_ne e]
theorem same_del {H : Hp} {p : Addr} : Same (del H p) H := fun b o h => by
  by_cases e : b = p
  · rw [e, del_same] at h; cases h
  · rw [del_ne e] at h; exact h
theorem Same.del {H H' : Hp} {p : Addr} (s : Same H H') : Same (L2.del H p) (L2.del H' p) := fun b o h => by
  by_cases e : b = p
  · rw [e, del_same] at h; cases h
  · rw [del_ne e] at h ⊢; exact s b o h
/-- all that was there is there yet, whatever became of a new object -/
theorem Same.updl {H H' : Hp} {p : Addr} {o : HO} (s : Same H H') (hp : H p = none) : Same H (upd H' p o) := fun b u h => by
  rw [upd_ne (ne_of_none h hp)]
  exact s b u h
/-- a new object outside of p -/
theorem del_new {H : Hp} {p t : Addr} {o u : HO} (hp : H p = some u) (ht : H t = none) : Same (del H p) (del (upd H t o) p) := (same_upd ht).del
end L2
namespace K40
open PySem PySem.Spec PyProof.Rows L2 Rg PySem.RingX
abbrev sRuns : Stmt := top 20
abbrev sAll : Stmt := top 21
theorem dp_emp {K : PySem.W.Frag} {H : Hp} {v : V} {d : D} (h : Dp K H v d) : decide (v = .non) = emp d := by cases h <;> rfl
theorem dp_row {K : PySem.W.Frag} {H : Hp} {xs : List V} {ds : List D} (dp : DpAll K H xs ds) (i : Int) (h1 : -(xs.length : Int) ≤ i) (h2 : i < xs.length) : ∃ v, atI xs i = some v ∧ Dp K H v (row ds i) := by
  have hlen := dp.length
  obtain ⟨j, hj, e1, e2⟩ : ∃ j : Nat, j < ds.length ∧ ixN xs.length i = some j ∧ row ds i = row ds (j : Int) := by
    unfold ixN
    by_cases h0 : 0 ≤ i
    · rw [if_pos h0, if_pos h2]
      exact ⟨i.toNat, by omega, rfl, by rw [Int.toNat_of_nonneg h0]⟩
    · rw [if_neg h0, if_pos h1]
      refine ⟨(i + xs.length).toNat, by omega, rfl, ?_⟩
      have := row_add ds i 1
      rw [Int.toNat_of_nonneg (by omega), hlen, ← this, Int.mul_one]
  obtain ⟨v, g1, g2⟩ := dp.get (row_get? hj)
  refine ⟨v, ?_, ?_⟩
  · unfold atI
    rw [e1]
    exact g1
  · rw [e2]; exact g2
def pq (q : Nat × Nat) : D := .tuple [.int q.1, .int q.2]
section
variable {P : Program} {w : World} {K : PySem.W.Frag} {mg : Str → Option Value} {base : Heap} {CW CR fW fR : Addr}
def spRuns (K : PySem.W.Frag) (CR : Addr) : Sp := fun vs H Q E => ∃ (v : V) (d : D), vs = [v] ∧ Dp K H v d ∧ Short d ∧ (∀ ds, d = .tuple ds → ringL ds = true → ∀ (p : Addr) (ys : List V) (H' : Hp), H p = none → H' p = some (.lst ys) → DpAll K (del H' p) ys ((runs ds).map pq) → Same H H' → Q (.ref p) H') ∧ (ringD d = false → Rz CR "ring" v H E)
theorem ring_tup {d : D} (h : ringD d = true) : ∃ ds, d = .tuple ds ∧ ringL ds = true := by
  cases d <;> first | exact ⟨_, rfl, h⟩ | cases h
theorem ring_open {ds : List D} (h : ringL ds = true) : Open_ ds ∧ 0 < ds.length := by
  unfold ringL at h
  obtain ⟨_, h⟩ := Bool.and_eq_true_iff.mp h
  obtain ⟨h, _⟩ := Bool.and_eq_true_iff.mp h
  obtain ⟨d, hd, he⟩ := List.any_eq_true.mp h
  obtain ⟨i, hi, e⟩ := List.getElem_of_mem hd
  refine ⟨⟨(i : Int), ?_⟩, by omega⟩
  unfold E
  rw [row_nat hi, e]
  exact he
theorem scRuns : FnScope ["ring", "found", "first", "many"] ["ring"] (defScope sRuns) := ⟨rfl, rfl, rfl, by decide +kernel, rfl, by decide +kernel, by decide +kernel⟩
theorem ok_runs (R : Raw K mg "runs" sRuns ["ring"]) (T : GT mg) (DC : Def P w K mg base (L2.CX P w) "check_ring" 6 ["ring"] (spCk K CR "ring" ringD)) : Def P w K mg base (L2.CX P w) "runs" 7 ["ring"] (spRuns K CR) := by
  obtain ⟨fC, dC, GC, gC, kC, bC⟩ := DC
  refine R.def fun f fd F => F.okX scRuns (fun vs H Q E h => ?_) (fun cdv A outer s H vs Q E hr h => ?_)
  · obtain ⟨v, d, rfl, _⟩ := h
    rfl
  · obtain ⟨v, d, rfl, hd, hS, k1, k2⟩ := h
    refine ⟨_, pss_cons (ps_expr (pe_call (E := E) GC hr (by rfl) gC kC bC .nil (passes_call (takes_of rfl rfl rfl rfl) (fun _ _ _ _ z => z)) (pa_cons (pv 0) pa_nil)))
      (PSs.nox (pss_cons (ps_set (i := 1) scRuns.nd rfl (Or.inl rfl) (pe_lst pa_nil))
      (pss_cons (ps_for PassesOwn.never rfl (pi_range1 (by rfl) T.range (pa_cons (pe_callB call_len_seq (by rfl) T.len PySem.boot_len (pa_cons (pv 0) pa_nil)) pa_nil)) (pg_name (i := 2) scRuns.nd rfl (Or.inl rfl))
        (pss_one (ps_if (PW.pt (pw_and (pt_cmpR op_notN (pe_ix ix_tup (pv 0) (pv 2) (fun _ _ => rfl)) pe_non (nomark _)) (pw_and1 (pt_cmpR op_isN (pe_ix ix_tup (pv 0) (pe_op op_sub (pv 2) pe_int) (fun _ _ => rfl)) pe_non (nomark _)))))
          (pss_cons (ps_set (i := 3) scRuns.nd rfl (Or.inl rfl) pe_int)
          (pss_cons (ps_while PassesOwn.never (pt_cmpR op_notN (pe_ix ix_tup (pv 0) (pe_op op_mod (pe_op op_add (pv 2) (pv 3)) (pe_callB call_len_seq (by rfl) T.len PySem.boot_len (pa_cons (pv 0) pa_nil))) (fun _ _ => rfl)) pe_non (nomark _))
            (pss_one (ps_aug (i := 3) scRuns.nd rfl (Or.inl rfl) pe_int ip_add)))
          (pss_one (ps_expr (pe_bm PySem.F.plainAttrs_list PySem.F.slot_list_append PySem.F.type_list_append mt_append (pv 1) (pa_cons (pe_tup (pa_cons (pv 2) (pa_cons (pv 3) pa_nil))) pa_nil))))))
          pss_nil)))
      (pss_one (ps_ret (pv 1)))))), ?_⟩
    refine ⟨_, rfl, v, d, rfl, hd, hS, fun e H1 s1 => ?_, fun e => k2 e⟩
    obtain ⟨ds, rfl, hring⟩ := ring_tup e
    obtain ⟨hop, hpos⟩ := ring_open hring
    have hl := hS ds rfl
    obtain ⟨a, xs, rfl, sq, dp⟩ := dp_tup hd
    have hxl := dp.length
    refine ⟨(by show 0 ≤ sizeLine; decide), fun l hl1 => ?_⟩
    have sl : Same H (upd H1 l (.lst [])) := s1.trans (same_upd hl1)
    refine ⟨_, rfl, a, xs, rfl, .inr (sl.sqT sq), _, rfl, by omega, by omega, for_range (n := xs.length) (fun i σ H' => (∃ x2 x3, σ = [some (.ref a), some (.ref l), x2, x3]) ∧ Same H H' ∧ ∃ ys, H' l = some (.lst ys) ∧ DpAll K (del H' l) ys ((runsTo ds i).map pq)) ⟨⟨_, _, rfl⟩, sl, [], upd_same, .nil⟩ ?_ ?_⟩
    · rintro i σ H2 hi ⟨⟨x2, x3, rfl⟩, s2, ys, hy, dy⟩
      have hi2 : i < ds.length := by omega
      obtain ⟨v1, a1, b1⟩ := dp_row dp (i : Int) (by omega) (by omega)
      obtain ⟨v2, a2, b2⟩ := dp_row dp ((i : Int) - 1) (by omega) (by omega)
      have no : ∀ (c : ¬ (¬ Rg.E ds (i : Int) ∧ Rg.E ds ((i : Int) - 1))), (runsTo ds (i + 1)).map pq = (runsTo ds i).map pq := fun c => by
        rw [runsTo_succ, if_neg c, List.append_nil]
      have g1 : atI xs (0 + (i : Int)) = some v1 := by rw [Int.zero_add]; exact a1
      refine ⟨_, rfl, _, rfl, a, xs, _, v1, rfl, rfl, s2.sqT sq, g1, rfl, _, rfl, ?_⟩
      rw [dp_emp b1]
      cases e1 : emp (row ds (i : Int)) with
      | true => exact iteF ⟨⟨_, _, rfl⟩, s2, ys, hy, by rw [no (fun c => c.1 e1)]; exact dy⟩
      | false =>
        have g2 : atI xs (0 + (i : Int) - 1) = some v2 := by rw [Int.zero_add]; exact a2
        refine iteT ⟨_, rfl, _, rfl, _, _, rfl, rfl, a, xs, _, v2, rfl, rfl, s2.sqT sq, g2, rfl, _, rfl, ?_⟩
        rw [dp_emp b2]
        cases e2 : emp (row ds ((i : Int) - 1)) with
        | false => exact iteF ⟨⟨_, _, rfl⟩, s2, ys, hy, by rw [no (fun c => by have := c.2; unfold Rg.E at this; rw [e2] at this; cases this)]; exact dy⟩
        | true =>
          have c1 : ¬ Rg.E ds (i : Int) := fun z => by unfold Rg.E at z; rw [e1] at z; cases z
          obtain ⟨n, hn, isL⟩ := len_ex hpos hop (i : Int)
          refine iteT ⟨fun m σ H' => ∃ k : Nat, m = n - k ∧ 1 ≤ k ∧ k ≤ n ∧ H' = H2 ∧ σ = [some (.ref a), some (.ref l), some (.int (0 + i)), some (.int k)], ⟨_, 1, rfl, Nat.le_refl _, ?_, rfl, rfl⟩, ?_⟩
          · refine Nat.pos_of_ne_zero fun z => c1 ?_
            subst z
            have := isL.1
            rw [show (i : Int) + ((0 : Nat) : Int) = i by omega] at this
            exact this
          · rintro m σ H' ⟨k, rfl, hk1, hk2, rfl, rfl⟩
            obtain ⟨v3, a3, b3⟩ := dp_row dp (((i : Int) + k) % (ds.length : Int)) (by have := Int.emod_nonneg ((i : Int) + k) (show (ds.length : Int) ≠ 0 by omega); omega) (by have := Int.emod_lt_of_pos ((i : Int) + k) (show (0 : Int) < ds.length by omega); omega)
            rw [row_mod] at b3
            have g3 : atI xs ((0 + (i : Int) + k) % (xs.length : Int)) = some v3 := by rw [Int.zero_add, hxl]; exact a3
            refine ⟨_, rfl, _, rfl, _, rfl, _, _, rfl, rfl, _, rfl, a, xs, rfl, .inr (s2.sqT sq), _, _, rfl, rfl, (by show (0 : Int) < (xs.length : Nat); omega), a, xs, _, v3, rfl, rfl, s2.sqT sq, g3, rfl, _, rfl, ?_⟩
            rw [dp_emp b3]
            cases e3 : emp (row ds ((i : Int) + k)) with
            | false =>
              have hkn : k < n := by
                rcases Nat.lt_or_ge k n with z | z
                · exact z
                · have ek : k = n := by omega
                  subst ek
                  have := isL.1
                  unfold Rg.E at this
                  rw [e3] at this
                  cases this
              refine iteT ⟨fun σ' H'' => H'' = H' ∧ σ' = [some (.ref a), some (.ref l), some (.int (0 + i)), some (.int ((k + 1 : Nat) : Int))], fun σ' H' ⟨z1, z2⟩ => ⟨n - (k + 1), by omega, k + 1, rfl, by omega, hkn, z1, z2⟩, ?_⟩
              exact ⟨_, rfl, _, _, rfl, rfl, rfl, rfl⟩
            | true =>
              have ek : k = n := by
                rcases Nat.lt_or_ge k n with z | z
                · exact absurd e3 (isL.2 k z)
                · omega
              subst ek
              refine iteF ⟨_, rfl, .inl ⟨rfl, _, SqL.of hy⟩, _, rfl, _, rfl, (by show 2 ≤ sizeLine; decide), fun t ht => ?_⟩
              have ylen := dy.length
              have rl : ((runsTo ds i).map pq).length ≤ i := by
                rw [List.length_map]
                unfold runsTo
                refine Nat.le_trans (List.length_filterMap_le _ _) ?_
                rw [List.length_range]; exact Nat.le_refl _
              have nt : l ≠ t := ne_of_none hy ht
              refine ⟨l, _, _, rfl, rfl, (upd_ne nt).trans hy, by rw [sizeLine_eq]; omega, ⟨_, _, rfl⟩, (s2.trans (same_upd ht)).updl (s1.free hl1), _, upd_same, ?_⟩
              rw [runsTo_succ, if_pos ⟨c1, e2⟩, List.map_append, del_upd]
              refine DpAll.snoc (DpAll.keep (del_new hy ht) dy) ?_
              rw [show pq (i, len ds (i : Int)) = .tuple [.int (i : Int), .int (k : Int)] by unfold pq; rw [len_of isL]]
              have et : del (upd H' t (.tup [V.int (0 + i), V.int k])) l t = some (.tup [V.int (0 + i), V.int k]) := (del_ne (Ne.symm nt)).trans upd_same
              have e0 : (V.int (i : Int)) = V.int (0 + i) := by rw [Int.zero_add]
              refine .tup (SqT.of et) (.cons ?_ (.cons (.int _) .nil))
              rw [← e0]
              exact .int _
    · rintro σ H2 ⟨⟨x2, x3, rfl⟩, s2, ys, hy, dy⟩
      rw [hxl] at dy
      exact ⟨_, rfl, k1 ds rfl hring l ys H2 (s1.free hl1) hy dy s2⟩
/-- the items, as a tuple of data -/
def spAll (K : PySem.W.Frag) (CR : Addr) : Sp := fun vs H Q E => ∃ (v : V) (d : D), vs = [v] ∧ Dp K H v d ∧ Short d ∧ (∀ ds, d = .tuple ds → ringL ds = true → ∀ (x : V) (H' : Hp), Dp K H' x (.tuple (ds.filter isT)) → Same H H' → Q x H') ∧ (ringD d = false → Rz CR "ring" v H E)
theorem scAll : FnScope ["ring"] ["ring"] (defScope sAll) := ⟨rfl, rfl, rfl, by decide +kernel, rfl, by decide +kernel, by decide +kernel⟩
theorem ok_all (R : Raw K mg "all_items" sAll ["ring"]) (T : GT mg) (DC : Def P w K mg base (L2.CX P w) "check_ring" 6 ["ring"] (spCk K CR "ring" ringD)) (DI : Def P w K mg base CX0 "items_of" 1 ["rows"] (spItems K)) : Def P w K mg base (L2.CX P w) "all_items" 7 ["ring"] (spAll K CR) := by
  obtain ⟨fC, dC, GC, gC, kC, bC⟩ := DC
  obtain ⟨fI, dI, GI, gI, kI, bI⟩ := DI
  refine R.def fun f fd F => F.okX scAll (fun vs H Q E h => ?_) (fun cdv A outer s H vs Q E hr h => ?_)
  · obtain ⟨v, d, rfl, _⟩ := h
    rfl
  · obtain ⟨v, d, rfl, hd, hS, k1, k2⟩ := h
    have hr1 : Room 1 _ := hr.mono (by decide)
    refine ⟨_, pss_cons (ps_expr (pe_call (E := E) GC hr (by rfl) gC kC bC .nil (passes_call (takes_of rfl rfl rfl rfl) (fun _ _ _ _ z => z)) (pa_cons (pv 0) pa_nil)))
      (PSs.nox (pss_one (ps_ret (pe_tupleOf (by rfl) T.tup (pe_call GI hr1 (by rfl) gI kI bI .nil pass0 (pa_cons (pv 0) pa_nil)))))), ?_⟩
    refine ⟨_, rfl, v, d, rfl, hd, hS, fun e H1 s1 => ?_, fun e => k2 e⟩
    obtain ⟨ds, rfl, hring⟩ := ring_tup e
    obtain ⟨a, xs, rfl, sq, dp⟩ := dp_tup hd
    refine ⟨_, rfl, a, xs, ds, rfl, s1.sqT sq, DpAll.keep s1 dp, hS ds rfl, fun p ys H2 hp h2 d2 s2 => .inl ⟨p, ys, rfl, SqL.of h2, fun q hq => ?_⟩⟩
    exact k1 ds rfl hring _ _ (.tup (SqT.of upd_same) (DpAll.keep (same_upd hq) d2)) ((s1.trans s2).trans (same_upd hq))
end
end K40

namespace K40
open PySem PySem.Spec PyProof.Rows L2 Rg PySem.RingX
abbrev sReach : Stmt := top 22
abbrev sOrder : Stmt := top 23
abbrev sLawful : Stmt := top 24
theorem ring_rows {ds : List D} (h : ringL ds = true) : ds.all rowD = true := by
  unfold ringL at h
  exact (Bool.and_eq_true_iff.mp h).1
theorem row_item {d : D} (h : rowD d = true) (ht : isT d = true) : itemD d = true := by
  unfold rowD at h
  rw [isT_emp ht] at h
  have e : stoneD d = false := by cases d <;> first | rfl | cases ht
  rw [e] at h
  simpa using h
theorem row_item_at {ds : List D} (h : ringL ds = true) (i : Int) (ht : isT (row ds i) = true) : itemD (row ds i) = true := row_item (List.all_eq_true.mp (ring_rows h) _ (row_mem (ring_open h).2 i)) ht
theorem row_shape {d : D} (h : rowD d = true) : d.canLay0 = true ∧ d.depth ≤ 2 := by
  cases ht : isT d with
  | true =>
    obtain ⟨k, x, m, rfl, _⟩ := item_parts (row_item h ht)
    simp [PyData.canLay0, PyData.canLayAll0, PyData.depth, PyData.depthAll]
  | false =>
    unfold rowD at h
    cases d <;> simp [isT, emp, stoneD, itemD] at h ht ⊢ <;> simp [PyData.canLay0, PyData.depth]
    subst h
    kernel_rfl
theorem rows_shape : ∀ {ds : List D}, (∀ d ∈ ds, d.canLay0 = true ∧ d.depth ≤ 2) → PyData.canLayAll0 ds = true ∧ PyData.depthAll ds ≤ 2
  | [], _ => by simp [PyData.canLayAll0, PyData.depthAll]
  | d :: ds, h => by
    obtain ⟨h1, h2⟩ := h d List.mem_cons_self
    obtain ⟨h3, h4⟩ := rows_shape fun e he => h e (List.mem_cons_of_mem _ he)
    simp only [PyData.canLayAll0, PyData.depthAll, h1, h3, Bool.and_self, true_and]
    omega
theorem ring_shape {ds : List D} (h : ringL ds = true) : SeqAt.shaped (.tuple ds) = true := by
  obtain ⟨h1, h2⟩ := rows_shape (ds := ds) fun d hd => row_shape (List.all_eq_true.mp (ring_rows h) d hd)
  unfold SeqAt.shaped
  simp only [PyData.canLay0, PyData.depth, h1, Bool.true_and]
  exact decide_eq_true (by omega)
theorem eqv_stone {d : D} : PyData.eqv d (.str "stone") = stoneD d := by cases d <;> simp [PyData.eqv, stoneD]
def Lawful (ds : List D) (x : Str) : Prop := (x = "stones" → Reached ds) ∧ (x ≠ "stones" → NoStone ds ∧ Reached ds ∧ (x ≠ "plain" → InOrder ds))
theorem inOrder_nat {ds : List D} (hm : 0 < ds.length) : InOrder ds ↔ ∀ r : Nat, r < ds.length → isT (row ds (r : Int)) = true → isT (row ds ((r : Int) + 1)) = true → gap ds ((r : Int) + 1) ≤ gap ds r + 1 := by
  constructor
  · intro h r _ h1 h2
    exact h r h1 h2
  · intro h r h1 h2
    obtain ⟨e, hl⟩ := ix_ok hm r
    have c0 : (((r % (ds.length : Int)).toNat : Nat) : Int) % ds.length = r % ds.length := by rw [e, Int.emod_emod_of_dvd _ (Int.dvd_refl _)]
    have c1 : ((((r % (ds.length : Int)).toNat : Nat) : Int) + 1) % ds.length = (r + 1) % ds.length := succ_congr c0
    have := h _ hl (by rw [row_congr c0]; exact h1) (by rw [row_congr c1]; exact h2)
    rw [gap_congr c0, gap_congr c1] at this
    exact this
/-- an item of a ring, as gap wants it -/
theorem ring_at {K : PySem.W.Frag} {H : Hp} {xs : List V} {ds : List D} (dp : DpAll K H xs ds) (hr : ringL ds = true) {r : Nat} (h : r < ds.length) (ht : isT (row ds (r : Int)) = true) : ∃ b k c, xs[r]? = some (.ref b) ∧ SqT K H b [.int k, .int (hashD (row ds r)), .int c] := by
  obtain ⟨v, h1, h2⟩ := dp.get (row_get? h)
  obtain ⟨k, x, m, e, _⟩ := item_parts (row_item_at hr _ ht)
  rw [e] at h2
  obtain ⟨b, rfl, q⟩ := dp_item h2
  refine ⟨b, k, m, h1, ?_⟩
  rw [e]
  exact q
theorem ap_int {Q : V → Hp → Prop} {x y : Int} {H : Hp} (e : x = y) (q : Q (.int y) H) : Q (.int x) H := e ▸ q
section
variable {P : Program} {w : World} {K : PySem.W.Frag} {mg : Str → Option Value} {base : Heap} {CW CR fW fR : Addr}
def spReach (K : PySem.W.Frag) : Sp := fun vs H Q _ => ∃ (a : Addr) (ds : List D), vs = [.ref a] ∧ Dp K H (.ref a) (.tuple ds) ∧ ringL ds = true ∧ ds.length ≤ 1000 ∧ ∀ (b : Bool) H', (b = true ↔ Reached ds) → Same H H' → Q (.bl b) H'
theorem scReach : FnScope ["ring", "first", "many", "behind", "row"] ["ring"] (defScope sReach) := ⟨rfl, rfl, rfl, by decide +kernel, rfl, by decide +kernel, by decide +kernel⟩
theorem ok_reach (R : Raw K mg "is_reached" sReach ["ring"]) (T : GT mg) (DR : Def P w K mg base (L2.CX P w) "runs" 7 ["ring"] (spRuns K CR)) (DG : Def P w K mg base CX0 "gap" 2 ["rows", "row"] (spGap K)) : Def P w K mg base (L2.CX P w) "is_reached" 8 ["ring"] (spReach K) := by
  obtain ⟨fR, dR, GR, gR, kR, bR⟩ := DR
  obtain ⟨fG, dG, GG, gG, kG, bG⟩ := DG
  refine R.def fun f fd F => F.okX scReach (fun vs H Q E h => ?_) (fun cdv A outer s H vs Q E hr h => ?_)
  · obtain ⟨a, ds, rfl, _⟩ := h
    rfl
  · obtain ⟨a, ds, rfl, hd, hring, hl, k⟩ := h
    have hr2 : Room 2 _ := hr.mono (by decide)
    refine ⟨_, pss_cons (ps_for (passes_of rfl) rfl (pi_list (pe_call (E := E) GR hr (by rfl) gR kR bR .nil (passes_call (takes_of rfl rfl rfl rfl) (fun _ _ _ _ z => z)) (pa_cons (pv 0) pa_nil))) (pg_tup rfl (pgs_cons (pg_name (i := 1) scReach.nd rfl (Or.inl rfl)) (pgs_cons (pg_name (i := 2) scReach.nd rfl (Or.inl rfl)) pgs_nil)))
        (pss_one (ps_for (passes_of rfl) rfl (pi_range1 (by rfl) T.range (pa_cons (pv 2) pa_nil)) (pg_name (i := 3) scReach.nd rfl (Or.inl rfl))
          (pss_cons (ps_set (i := 4) scReach.nd rfl (Or.inl rfl) (pe_op op_mod (pe_op op_add (pv 1) (pv 3)) (pe_callB call_len_seq (by rfl) T.len PySem.boot_len (pa_cons (pv 0) pa_nil))))
          (pss_one (ps_if (PW.pt (pw_and (pt_val (pe_callB call_isi (by rfl) T.isi (by decide +kernel) (pa_cons (pe_ix ix_tup (pv 0) (pv 4) (fun _ _ => rfl)) (pa_cons (pe_bltn (v := .ty "tuple") (by rfl) T.tup (by decide +kernel) rfl) pa_nil))))
            (pw_and1 (pt_cmpR op_gt (pe_call GG hr2 (by rfl) gG kG bG .nil pass0 (pa_cons (pv 0) (pa_cons (pv 4) pa_nil))) (pv 3) (nomark _)))))
            (pss_one (ps_ret pe_bl)) pss_nil))))))
      (pss_one (ps_ret pe_bl)), ?_⟩
    obtain ⟨hop, hpos⟩ := ring_open hring
    obtain ⟨a', xs, ea, sq, dp⟩ := dp_tup hd
    cases ea
    have hxl := dp.length
    refine ⟨_, rfl, _, _, rfl, hd, fun ds' e => by cases e; exact hl, fun ds' e _ p ys H1 hp h1 d1 s1 => ?_, fun z => ?_⟩
    · cases e
      have g1 : ∀ (i : Nat) (x : V), ys[i]? = some x → ∃ (q : Nat × Nat) (t : Addr), (runs ds)[i]? = some q ∧ x = V.ref t ∧ SqT K H1 t [.int q.1, .int q.2] := fun i x hx => by
        obtain ⟨d, hd, dx⟩ := dp_at d1 hx
        rw [List.getElem?_map] at hd
        obtain ⟨q, hq, rfl⟩ := Option.map_eq_some_iff.mp hd
        obtain ⟨t, vs, rfl, sq2, dp2⟩ := dp_tup dx
        cases dp2 with
        | cons x1 dp2 => cases dp2 with
          | cons x2 dp2 =>
            cases dp2; cases x1; cases x2
            exact ⟨q, t, hq, rfl, same_del.sqT sq2⟩
      have hyl : ys.length = (runs ds).length := by rw [d1.length, List.length_map]
      refine ⟨p, rfl, ⟨_, SqL.of h1⟩, for_list (xs := ys) (fun i σ H' => (∃ x1 x2 x3 x4, σ = [some (V.ref a), x1, x2, x3, x4]) ∧ Same H1 H' ∧ ∀ q ∈ (runs ds).take i, ∀ b : Nat, b < q.2 → isT (row ds (q.1 + b)) = true → gap ds (q.1 + b) ≤ b) ⟨⟨_, _, _, _, rfl⟩, Same.refl _, fun q hq => by rw [List.take_zero] at hq; cases hq⟩ (fun i σ H' _ h => h.2.1.seq (SqL.of h1)) ?_ ?_⟩
      · rintro i x σ H2 hx ⟨⟨x1, x2, x3, x4, rfl⟩, s2, good⟩
        obtain ⟨q, t, hq, rfl, sqt⟩ := g1 i x hx
        have hmem : q ∈ runs ds := List.mem_of_getElem? hq
        have s12 : Same H H2 := s1.trans s2
        have hq2 : q.2 < ds.length := by
          obtain ⟨_, _, _, h4⟩ := mem_runs.mp hmem
          obtain ⟨n, hn, isL⟩ := len_ex hpos hop (q.1 : Int)
          rw [h4, len_of isL]
          exact hn
        refine ⟨t, _, rfl, s2.sqT sqt, rfl, _, _, rfl, _, _, rfl, rfl, ?_⟩
        refine ⟨_, rfl, (q.2 : Int), rfl, by omega, by omega, for_range (n := q.2) (fun j σ H' => (∃ x3 x4, σ = [some (V.ref a), some (V.int q.1), some (V.int q.2), x3, x4]) ∧ Same H1 H' ∧ ∀ b : Nat, b < j → isT (row ds (q.1 + b)) = true → gap ds (q.1 + b) ≤ b) ⟨⟨_, _, rfl⟩, s2, fun b hb => absurd hb (Nat.not_lt_zero b)⟩ ?_ ?_⟩
        · rintro j σ H3 hj ⟨⟨x3, x4, rfl⟩, s3, good3⟩
          have s13 : Same H H3 := s1.trans s3
          refine ⟨_, rfl, _, rfl, _, _, rfl, rfl, _, rfl, a, xs, rfl, .inr (s13.sqT sq), _, _, rfl, rfl, (by show (0 : Int) < (xs.length : Nat); omega), ?_⟩
          have hn1 := Int.emod_lt_of_pos ((q.1 : Int) + j) (show (0 : Int) < ds.length by omega)
          have hn0 := Int.emod_nonneg ((q.1 : Int) + j) (show (ds.length : Int) ≠ 0 by omega)
          obtain ⟨r, er⟩ : ∃ r : Nat, ((q.1 : Int) + j) % (ds.length : Int) = r := ⟨(((q.1 : Int) + j) % (ds.length : Int)).toNat, by omega⟩
          have hr' : r < ds.length := by omega
          have erow : row ds (r : Int) = row ds (q.1 + j) := by rw [← er, row_mod]
          have egap : gap ds (r : Int) = gap ds (q.1 + j) := by rw [← er, gap_mod]
          have e4 : ((q.1 : Int) + (0 + (j : Int))) % (xs.length : Int) = r := by rw [Int.zero_add, hxl, er]
          show gName 4 (V.int (((q.1 : Int) + (0 + (j : Int))) % (xs.length : Int))) _ _ _
          rw [e4]
          obtain ⟨v, hv1, hv2⟩ := dp.get (row_get? hr')
          have hv3 := hv2.keep s13
          refine ⟨_, rfl, _, rfl, a, xs, _, v, rfl, rfl, s13.sqT sq, atI_nat hv1, v, _, _, _, isT (row ds (r : Int)), rfl, .ty _, dp_ty hv3, kit_ty (kit_tup hv3), _, rfl, ?_⟩
          have more : ¬ (isT (row ds (r : Int)) = true ∧ (j : Int) < gap ds r) → ∀ b : Nat, b < j + 1 → isT (row ds (q.1 + b)) = true → gap ds (q.1 + b) ≤ b := fun z b hb hb2 => by
            rcases Nat.lt_or_ge b j with y | y
            · exact good3 b y hb2
            · have ebj : b = j := by omega
              subst ebj
              rw [← erow] at hb2
              rw [← egap]
              exact Int.not_lt.mp fun y => z ⟨hb2, y⟩
          cases ht : isT (row ds (r : Int)) with
          | false => exact iteF ⟨⟨_, _, rfl⟩, s3, more (fun z => by rw [ht] at z; cases z.1)⟩
          | true =>
            obtain ⟨b, kk, c, hb1, hb2⟩ := ring_at dp hring hr' ht
            refine iteT ⟨_, rfl, _, rfl, a, b, xs, r, kk, _, c, rfl, .inr (s13.sqT sq), hb1, s13.sqT hb2, _, rfl, _, _, rfl, rfl, _, rfl, ?_⟩
            have eg : ((r : Int) - hashD (row ds (r : Int))) % (xs.length : Int) = gap ds r := by rw [hxl]; rfl
            rw [eg, Int.zero_add]
            refine ite2 (fun c1 => ?_) (fun c1 => ?_)
            · have hlt : (j : Int) < gap ds r := of_decide_eq_true c1
              refine k false H3 ⟨fun z => (nomatch z), fun z => ?_⟩ s13
              have := (reached_runs hpos hop).mp z q hmem j hj (by rw [← erow]; exact ht)
              rw [← egap] at this
              omega
            · exact ⟨⟨_, _, rfl⟩, s3, more (fun z => c1 (decide_eq_true z.2))⟩
        · rintro σ H3 ⟨⟨x3, x4, rfl⟩, s3, good3⟩
          refine ⟨⟨_, _, _, _, rfl⟩, s3, fun q' hq' => ?_⟩
          rw [take_more hq] at hq'
          rcases List.mem_append.mp hq' with z | z
          · exact good q' z
          · rw [List.mem_singleton.mp z]
            exact good3
      · rintro σ H2 ⟨⟨x1, x2, x3, x4, rfl⟩, s2, good⟩
        refine k true H2 ⟨fun _ => (reached_runs hpos hop).mpr fun q hq => ?_, fun _ => rfl⟩ (s1.trans s2)
        rw [hyl, List.take_length] at good
        exact good q hq
    · rw [show ringD (.tuple ds) = true from hring] at z
      cases z
end
end K40

namespace K40
open PySem PySem.Spec PyProof.Rows L2 Rg PySem.RingX
section
variable {P : Program} {w : World} {K : PySem.W.Frag} {mg : Str → Option Value} {base : Heap} {CW CR fW fR : Addr}
def spOrder (K : PySem.W.Frag) : Sp := fun vs H Q _ => ∃ (a : Addr) (ds : List D), vs = [.ref a] ∧ Dp K H (.ref a) (.tuple ds) ∧ ringL ds = true ∧ ds.length ≤ 1000 ∧ ∀ (b : Bool), (b = true ↔ InOrder ds) → Q (.bl b) H
theorem scOrder : FnScope ["ring", "row", "after"] ["ring"] (defScope sOrder) := ⟨rfl, rfl, rfl, by decide +kernel, rfl, by decide +kernel, by decide +kernel⟩
theorem ok_order (R : Raw K mg "is_in_order" sOrder ["ring"]) (T : GT mg) (DG : Def P w K mg base CX0 "gap" 2 ["rows", "row"] (spGap K)) : Def P w K mg base CX0 "is_in_order" 3 ["ring"] (spOrder K) := by
  obtain ⟨fG, dG, GG, gG, kG, bG⟩ := DG
  refine R.def fun f fd F => F.ok scOrder (fun vs H Q E h => ?_) (fun cdv A outer s H vs Q E hr h => ?_)
  · obtain ⟨a, ds, rfl, _⟩ := h
    rfl
  · obtain ⟨a, ds, rfl, hd, hring, hl, k⟩ := h
    refine ⟨_, pss_cons (ps_for PassesOwn.never rfl (pi_range1 (by rfl) T.range (pa_cons (pe_callB call_len_seq (by rfl) T.len PySem.boot_len (pa_cons (pv 0) pa_nil)) pa_nil)) (pg_name (i := 1) scOrder.nd rfl (Or.inl rfl))
          (pss_cons (ps_set (i := 2) scOrder.nd rfl (Or.inl rfl) (pe_op op_mod (pe_op op_add (pv 1) pe_int) (pe_callB call_len_seq (by rfl) T.len PySem.boot_len (pa_cons (pv 0) pa_nil))))
          (pss_one (ps_if (PW.pt (pw_and (pt_val (pe_callB call_isi (by rfl) T.isi (by decide +kernel) (pa_cons (pe_ix ix_tup (pv 0) (pv 1) (fun _ _ => rfl)) (pa_cons (pe_bltn (v := .ty "tuple") (by rfl) T.tup (by decide +kernel) rfl) pa_nil))))
            (pw_and1 (pt_val (pe_callB call_isi (by rfl) T.isi (by decide +kernel) (pa_cons (pe_ix ix_tup (pv 0) (pv 2) (fun _ _ => rfl)) (pa_cons (pe_bltn (v := .ty "tuple") (by rfl) T.tup (by decide +kernel) rfl) pa_nil)))))))
            (pss_one (ps_if (pt_cmpR op_gt (pe_call GG hr (by rfl) gG kG bG .nil pass0 (pa_cons (pv 0) (pa_cons (pv 2) pa_nil))) (pe_op op_add (pe_call GG hr (by rfl) gG kG bG .nil pass0 (pa_cons (pv 0) (pa_cons (pv 1) pa_nil))) pe_int) (nomark _)) (pss_one (ps_ret pe_bl)) pss_nil)) pss_nil))))
      (pss_one (ps_ret pe_bl)), ?_⟩
    obtain ⟨hop, hpos⟩ := ring_open hring
    obtain ⟨a', xs, ea, sq, dp⟩ := dp_tup hd
    cases ea
    have hxl := dp.length
    refine ⟨_, rfl, a, xs, rfl, .inr sq, _, rfl, by omega, by omega, for_range (n := xs.length) (fun i σ H' => (∃ x1 x2, σ = [some (V.ref a), x1, x2]) ∧ H' = H ∧ ∀ r : Nat, r < i → isT (row ds (r : Int)) = true → isT (row ds ((r : Int) + 1)) = true → gap ds ((r : Int) + 1) ≤ gap ds r + 1) ⟨⟨_, _, rfl⟩, rfl, fun r hr => absurd hr (Nat.not_lt_zero r)⟩ ?_ ?_⟩
    · rintro i σ H' hi ⟨⟨x1, x2, rfl⟩, rfl, good⟩
      refine ⟨_, rfl, _, _, rfl, rfl, _, rfl, a, xs, rfl, .inr sq, _, _, rfl, rfl, (by show (0 : Int) < (xs.length : Nat); omega), ?_⟩
      have hn1 := Int.emod_lt_of_pos ((i : Int) + 1) (show (0 : Int) < ds.length by omega)
      have hn0 := Int.emod_nonneg ((i : Int) + 1) (show (ds.length : Int) ≠ 0 by omega)
      obtain ⟨r, er⟩ : ∃ r : Nat, ((i : Int) + 1) % (ds.length : Int) = r := ⟨(((i : Int) + 1) % (ds.length : Int)).toNat, by omega⟩
      have hr' : r < ds.length := by omega
      have hi' : i < ds.length := by omega
      have erow : row ds (r : Int) = row ds ((i : Int) + 1) := by rw [← er, row_mod]
      have egap : gap ds (r : Int) = gap ds ((i : Int) + 1) := by rw [← er, gap_mod]
      have e4 : ((0 + (i : Int)) + 1) % (xs.length : Int) = r := by rw [Int.zero_add, hxl, er]
      show gName 2 (V.int (((0 + (i : Int)) + 1) % (xs.length : Int))) _ _ _
      rw [e4]
      have more : ¬ ((isT (row ds (i : Int)) = true ∧ isT (row ds (r : Int)) = true) ∧ gap ds i + 1 < gap ds r) → ∀ b : Nat, b < i + 1 → isT (row ds (b : Int)) = true → isT (row ds ((b : Int) + 1)) = true → gap ds ((b : Int) + 1) ≤ gap ds b + 1 := fun z b hb hb1 hb2 => by
        rcases Nat.lt_or_ge b i with y | y
        · exact good b y hb1 hb2
        · have ebj : b = i := by omega
          subst ebj
          rw [← erow] at hb2
          rw [← egap]
          exact Int.not_lt.mp fun y => z ⟨⟨hb1, hb2⟩, y⟩
      obtain ⟨v, hv1, hv2⟩ := dp.get (row_get? hi')
      obtain ⟨u, hu1, hu2⟩ := dp.get (row_get? hr')
      have hv0 : atI xs (0 + (i : Int)) = some v := by rw [Int.zero_add]; exact atI_nat hv1
      refine ⟨_, rfl, _, rfl, a, xs, _, v, rfl, rfl, sq, hv0, v, _, _, _, isT (row ds (i : Int)), rfl, .ty _, dp_ty hv2, kit_ty (kit_tup hv2), _, rfl, ?_⟩
      cases ht : isT (row ds (i : Int)) with
      | false => exact iteF ⟨⟨_, _, rfl⟩, rfl, more (fun z => by rw [ht] at z; cases z.1.1)⟩
      | true =>
        refine iteT ⟨_, rfl, _, rfl, a, xs, _, u, rfl, rfl, sq, atI_nat hu1, u, _, _, _, isT (row ds (r : Int)), rfl, .ty _, dp_ty hu2, kit_ty (kit_tup hu2), _, rfl, ?_⟩
        cases hs : isT (row ds (r : Int)) with
        | false => exact iteF ⟨⟨_, _, rfl⟩, rfl, more (fun z => by rw [hs] at z; cases z.1.2)⟩
        | true =>
          obtain ⟨b, kk, c, hb1, hb2⟩ := ring_at dp hring hr' hs
          obtain ⟨b', kk', c', hb1', hb2'⟩ := ring_at dp hring hi' ht
          have e0 : V.int (0 + (i : Int)) = V.int (i : Int) := by rw [Int.zero_add]
          refine iteT ⟨_, rfl, _, rfl, a, b, xs, r, kk, _, c, rfl, .inr sq, hb1, hb2, _, rfl, _, rfl, a, b', xs, i, kk', _, c', congrArg (fun z => [V.ref a, z]) e0, .inr sq, hb1', hb2', _, _, rfl, rfl, _, _, rfl, rfl, _, rfl, ?_⟩
          have eg : ((r : Int) - hashD (row ds (r : Int))) % (xs.length : Int) = gap ds r := by rw [hxl]; rfl
          have eg2 : ((i : Int) - hashD (row ds (i : Int))) % (xs.length : Int) = gap ds i := by rw [hxl]; rfl
          rw [eg, eg2]
          refine ite2 (fun c1 => ?_) (fun c1 => ?_)
          · have hlt : gap ds i + 1 < gap ds r := of_decide_eq_true c1
            refine k false ⟨fun z => (nomatch z), fun z => ?_⟩
            have := z (i : Int) ht (by rw [← erow]; exact hs)
            rw [← egap] at this
            omega
          · exact ⟨⟨_, _, rfl⟩, rfl, more (fun z => c1 (decide_eq_true z.2))⟩
    · rintro σ H' ⟨⟨x1, x2, rfl⟩, rfl, good⟩
      refine k true ⟨fun _ => (inOrder_nat hpos).mpr fun r hr => ?_, fun _ => rfl⟩
      exact good r (by omega)
end
end K40

namespace K40
open PySem PySem.Spec PyProof.Rows L2 Rg PySem.RingX
section
variable {P : Program} {w : World} {K : PySem.W.Frag} {mg : Str → Option Value} {base : Heap} {CW CR fW fR : Addr}
theorem noStone_any {ds : List D} (hm : 0 < ds.length) : NoStone ds ↔ (ds.any fun z => PyData.eqv z (.str "stone")) = false := by
  constructor
  · intro h
    rw [List.any_eq_false]
    intro d hd
    obtain ⟨i, hi, e⟩ := List.getElem_of_mem hd
    have := h (i : Int)
    rw [row_nat hi, e] at this
    rw [eqv_stone, this]
    exact Bool.false_ne_true
  · intro h r
    rw [List.any_eq_false] at h
    have := h _ (row_mem hm r)
    rw [eqv_stone] at this
    simpa using this
theorem way_str {d : D} (h : wayD d = true) : ∃ x, d = .str x := by cases d <;> first | exact ⟨_, rfl⟩ | cases h
def spLawful (K : PySem.W.Frag) (CW CR : Addr) : Sp := fun vs H Q E => ∃ (v u : V) (d e : D), vs = [v, u] ∧ Dp K H v d ∧ Dp K H u e ∧ Short d ∧ Short e ∧
  (∀ ds x, d = .tuple ds → ringL ds = true → e = .str x → wayD e = true → ∀ (b : Bool) H', (b = true ↔ Lawful ds x) → Same H H' → Q (.bl b) H') ∧
  (ringD d = false → Rz CR "ring" v H E) ∧ (ringD d = true → wayD e = false → Rz CW "way" u H E)
theorem scLawful : FnScope ["ring", "way"] ["ring", "way"] (defScope sLawful) := ⟨rfl, rfl, rfl, by decide +kernel, rfl, by decide +kernel, by decide +kernel⟩
theorem ok_lawful (R : Raw K mg "is_lawful" sLawful ["ring", "way"]) (T : GT mg) (hS : ∃ t, mg "STONE" = some (.str "stone" t)) (DC : Def P w K mg base (L2.CX P w) "check_ring" 6 ["ring"] (spCk K CR "ring" ringD)) (DW : Def P w K mg base (L2.CX P w) "check_way" 2 ["way"] (spCk K CW "way" wayD))
    (DR : Def P w K mg base (L2.CX P w) "is_reached" 8 ["ring"] (spReach K)) (DO : Def P w K mg base CX0 "is_in_order" 3 ["ring"] (spOrder K)) : Def P w K mg base (L2.CX P w) "is_lawful" 9 ["ring", "way"] (spLawful K CW CR) := by
  obtain ⟨tS, gS⟩ := hS
  obtain ⟨fC, dC, GC, gC, kC, bC⟩ := DC
  obtain ⟨fW, dW, GW, gW, kW, bW⟩ := DW
  obtain ⟨fR, dR, GR, gR, kR, bR⟩ := DR
  obtain ⟨fO, dO, GO, gO, kO, bO⟩ := DO
  refine R.def fun f fd F => F.okX scLawful (fun vs H Q E h => ?_) (fun cdv A outer s H vs Q E hr h => ?_)
  · obtain ⟨v, u, d, e, rfl, _⟩ := h
    rfl
  · obtain ⟨v, u, d, e, rfl, hd, he, hS1, hS2, k1, k2, k3⟩ := h
    have hr6 : Room 6 _ := hr.mono (by decide)
    have hr2 : Room 2 _ := hr.mono (by decide)
    have hr3 : Room 3 _ := hr.mono (by decide)
    have hu : (A.deeper (envOfC "is_lawful" (defScope sLawful) s.heap.objs.size f cdv)).units + 65 < cLine := by have := hr.un; omega
    refine ⟨_, pss_cons (ps_expr (pe_call (E := E) GC hr6 (by rfl) gC kC bC .nil (passes_call (takes_of rfl rfl rfl rfl) (fun _ _ _ _ z => z)) (pa_cons (pv 0) pa_nil)))
      (pss_cons (ps_expr (pe_call (E := E) GW hr2 (by rfl) gW kW bW .nil (passes_call (takes_of rfl rfl rfl rfl) (fun _ _ _ _ z => z)) (pa_cons (pv 1) pa_nil)))
      (pss_cons (ps_if (pt_cmpR op_eq (pv 1) pe_str (nomark _)) (pss_one (ps_ret (pe_call (E := E) GR hr (by rfl) gR kR bR .nil (passes_call (takes_of rfl rfl rfl rfl) (fun _ _ _ _ z => z)) (pa_cons (pv 0) pa_nil)))) pss_nil)
      (pss_cons (ps_if (PW.pt (pw_or (pt_cmpR (op_inDT hu) (pe_glob (v := .str "stone") (by rfl) gS ⟨_, rfl⟩) (pv 0) (by rfl)) (pw_or1 (pt_not (pt_val (pe_call (E := E) GR hr (by rfl) gR kR bR .nil (passes_call (takes_of rfl rfl rfl rfl) (fun _ _ _ _ z => z)) (pa_cons (pv 0) pa_nil)))))))
        (pss_one (ps_ret pe_bl)) pss_nil)
      (pss_one (ps_ret (pe_or (pe_cmpR op_eq (pv 1) pe_str (nomark _)) (pe_one (pe_call GO hr3 (by rfl) gO kO bO .nil pass0 (pa_cons (pv 0) pa_nil))))))))), ?_⟩
    refine ⟨_, rfl, v, d, rfl, hd, hS1, fun rt H1 s1 => ?_, fun rf => k2 rf⟩
    refine ⟨_, rfl, u, e, rfl, he.keep s1, hS2, fun wt H2 s2 => ?_, fun wf => (k3 rt wf).keep s1⟩
    obtain ⟨ds, rfl, hring⟩ := ring_tup rt
    obtain ⟨hop, hpos⟩ := ring_open hring
    obtain ⟨x, rfl⟩ := way_str wt
    have hd2 := hd.keep (s1.trans s2)
    have s12 := s1.trans s2
    have hl := hS1 ds rfl
    obtain ⟨a, xs, rfl, sq, dp⟩ := dp_tup hd
    have hu2 := he.keep s12
    cases hu2
    refine ⟨_, rfl, rfl, _, rfl, ?_⟩
    have kk := fun b H' => k1 ds x rfl hring rfl wt b H'
    by_cases c1 : x = "stones"
    · refine ifT (decide_eq_true (congrArg V.str c1)) ?_
      refine ⟨_, rfl, a, ds, rfl, hd2, hring, hl, fun b H3 hb s3 => ?_⟩
      exact kk b H3 (hb.trans ⟨fun z => ⟨fun _ => z, fun z2 => absurd c1 z2⟩, fun z => z.1 c1⟩) (s12.trans s3)
    · refine ifF (decide_eq_false fun z => c1 (V.str.inj z)) ?_
      refine ⟨_, rfl, .str "stone", ds, .str _, hd2, (by kernel_rfl), ring_shape hring, _, rfl, ?_⟩
      cases hst : (ds.any fun z => PyData.eqv z (.str "stone")) with
      | true =>
        refine iteT ?_
        refine kk false H2 ⟨fun z => (nomatch z), fun z => ?_⟩ s12
        have := (noStone_any hpos).mp (z.2 c1).1
        rw [hst] at this
        cases this
      | false =>
        have ns : NoStone ds := (noStone_any hpos).mpr hst
        refine iteF ⟨_, rfl, a, ds, rfl, hd2, hring, hl, fun b H3 hb s3 => ⟨_, rfl, ?_⟩⟩
        have s13 := s12.trans s3
        cases b with
        | false =>
          refine iteT ?_
          refine kk false H3 ⟨fun z => (nomatch z), fun z => ?_⟩ s13
          exact hb.mpr (z.2 c1).2.1
        | true =>
          refine iteF ?_
          have hR : Reached ds := hb.mp rfl
          refine ⟨_, rfl, rfl, _, rfl, ?_⟩
          by_cases c2 : x = "plain"
          · refine ifT (decide_eq_true (congrArg V.str c2)) ?_
            exact kk true H3 ⟨fun _ => ⟨fun z => absurd z c1, fun _ => ⟨ns, hR, fun z => absurd c2 z⟩⟩, fun _ => rfl⟩ s13
          · refine ifF (decide_eq_false fun z => c2 (V.str.inj z)) ?_
            refine ⟨_, rfl, a, ds, rfl, hd2.keep s3, hring, hl, fun b2 hb2 => ?_⟩
            exact kk b2 H3 (hb2.trans ⟨fun z => ⟨fun z => absurd z c1, fun _ => ⟨ns, hR, fun _ => z⟩⟩, fun z => (z.2 c1).2.2 c2⟩) s13
end
end K40

namespace L2
open PySem PySem.Spec PyProof.Rows
theorem ixN_nat {n r : Nat} (h : r < n) : ixN n (r : Int) = some r := by
  unfold ixN
  rw [if_pos (by omega), if_pos (by omega)]
  rfl
theorem DpAll.set {K : PySem.W.Frag} {H : Hp} : ∀ {vs : List V} {ds : List PyData} {v : V} {d : PyData} (i : Nat), DpAll K H vs ds → Dp K H v d → DpAll K H (vs.set i v) (ds.set i d)
  | _, _, _, _, _, .nil, _ => .nil
  | _, _, _, _, 0, .cons _ t, h => .cons h t
  | _, _, _, _, i + 1, .cons x t, h => .cons x (DpAll.set i t h)
end L2
namespace K40
open PySem PySem.Spec PyProof.Rows L2 Rg PySem.RingX
abbrev sSettle : Stmt := top 25
section
variable {P : Program} {w : World} {K : PySem.W.Frag} {mg : Str → Option Value} {base : Heap} {CW CR fW fR : Addr}
/-- an open list of rows, as settle works on it -/
structure Laid (K : PySem.W.Frag) (H : Hp) (p : Addr) (ds : List D) : Prop where
  ex : ∃ ys, H p = some (.lst ys) ∧ DpAll K (del H p) ys ds
  cl : Clean ds
  R : Reached ds
  O : InOrder ds
def spSettle (K : PySem.W.Frag) : Sp := fun vs H Q _ => ∃ (p b : Addr) (ds : List D) (c : D), vs = [.ref p, .ref b] ∧ Laid K H p ds ∧ Open_ ds ∧ 0 < ds.length ∧ ds.length ≤ 1000 ∧ Dp K (del H p) (.ref b) c ∧ itemD c = true ∧
  ∀ ds' H', Laid K H' p ds' → ds'.length = ds.length → (ds'.filter isT).Perm (c :: ds.filter isT) → Same (del H p) (del H' p) → Q .non H'
theorem scSettle : FnScope ["rows", "item", "many", "row"] ["rows", "item"] (defScope sSettle) := ⟨rfl, rfl, rfl, by decide +kernel, rfl, by decide +kernel, by decide +kernel⟩
theorem ok_settle (R : Raw K mg "settle" sSettle ["rows", "item"]) (T : GT mg) (DH : Def P w K mg base CX0 "home" 1 ["item", "many"] (spHome K)) (DD : Def P w K mg base CX0 "distance" 1 ["one", "other", "many"] spDist) (DG : Def P w K mg base CX0 "gap" 2 ["rows", "row"] (spGap K)) : Def P w K mg base CX0 "settle" 3 ["rows", "item"] (spSettle K) := by
  obtain ⟨fG, dG, GG, gG, kG, bG⟩ := DG
  obtain ⟨fH, dH, GH, gH, kH, bH⟩ := DH
  obtain ⟨fD, dD, GD, gD, kD, bD⟩ := DD
  refine R.def fun f fd F => F.ok scSettle (fun vs H Q E h => ?_) (fun cdv A outer s H vs Q E hr h => ?_)
  · obtain ⟨p, b, ds, c, rfl, _⟩ := h
    rfl
  · obtain ⟨p, b, ds, c, rfl, ⟨⟨ys, hy, dy⟩, cl, hR, hO⟩, hop, hpos, hl, hc, ic, k⟩ := h
    have hr1 : Room 1 _ := hr.mono (by decide)
    refine ⟨_, pss_cons (ps_set (i := 2) scSettle.nd rfl (Or.inl rfl) (pe_callB call_len_seq (by rfl) T.len PySem.boot_len (pa_cons (pv 0) pa_nil)))
      (pss_cons (ps_set (i := 3) scSettle.nd rfl (Or.inl rfl) (pe_call GH hr1 (by rfl) gH kH bH .nil pass0 (pa_cons (pv 1) (pa_cons (pv 2) pa_nil))))
      (pss_cons (ps_while PassesOwn.never (pt_cmpR op_notN (pe_ix ix_list (pv 0) (pv 3) (fun _ _ => rfl)) pe_non (nomark _))
        (pss_cons (ps_if (pt_cmpR op_lt (pe_call GG hr (by rfl) gG kG bG .nil pass0 (pa_cons (pv 0) (pa_cons (pv 3) pa_nil)))
            (pe_call GD hr1 (by rfl) gD kD bD .nil pass0 (pa_cons (pe_call GH hr1 (by rfl) gH kH bH .nil pass0 (pa_cons (pv 1) (pa_cons (pv 2) pa_nil))) (pa_cons (pv 3) (pa_cons (pv 2) pa_nil)))) (nomark _))
          (pss_one (ps_asg (pe_tup (pa_cons (pe_ix ix_list (pv 0) (pv 3) (fun _ _ => rfl)) (pa_cons (pv 1) pa_nil))) (pg_tup rfl (pgs_cons (pg_name (i := 1) scSettle.nd rfl (Or.inl rfl)) (pgs_cons (pg_sub (pv 0) (pv 3) set_list) pgs_nil))))) pss_nil)
        (pss_one (ps_set (i := 3) scSettle.nd rfl (Or.inl rfl) (pe_op op_mod (pe_op op_add (pv 3) pe_int) (pv 2))))))
      (pss_one (ps_asg (pv 1) (pg_sub (pv 0) (pv 3) set_list))))), ?_⟩
    obtain ⟨kc, xc, mc, rfl, _⟩ := item_parts ic
    obtain ⟨b0, eb0, sqb⟩ := dp_item hc
    cases eb0
    have hyl : ys.length = ds.length := dy.length
    have hpos' : (0 : Int) < (ys.length : Nat) := by omega
    refine ⟨_, rfl, p, ys, rfl, .inl (SqL.of hy), _, rfl, _, rfl, b, kc, xc, mc, _, rfl, same_del.sqT sqb, hpos', ?_⟩
    have c0 : Carry ds (.tuple [.int kc, .int xc, .int mc]) xc := by
      have z : dst ds.length (.tuple [.int kc, .int xc, .int mc]) xc = 0 := by
        unfold dst hashD
        rw [Int.sub_self, Int.zero_emod]
      exact ⟨ic, cl, hR, hO, hop, hpos, fun j h1 h2 => by rw [z] at h2; omega, fun h1 => by rw [z] at h1; omega⟩
    obtain ⟨n0, _, isL0⟩ := len_ex hpos hop xc
    refine ⟨fun m σ H' => ∃ (ds' : List D) (ys' : List V) (c' : D) (b' : Addr) (q : Int) (r : Nat), σ = [some (.ref p), some (V.ref b'), some (V.int (ds.length : Nat)), some (V.int (r : Nat))] ∧ q % (ds.length : Int) = r ∧ H' p = some (.lst ys') ∧ DpAll K (del H' p) ys' ds' ∧ Dp K (del H' p) (.ref b') c' ∧ Carry ds' c' q ∧ ds'.length = ds.length ∧ Same (del H p) (del H' p) ∧ IsLen ds' q m ∧ (c' :: ds'.filter isT).Perm (.tuple [.int kc, .int xc, .int mc] :: ds.filter isT), ?_, ?_⟩
    · obtain ⟨er, _⟩ := ix_ok hpos xc
      refine ⟨n0, ds, ys, _, b, xc, (xc % (ds.length : Int)).toNat, ?_, er.symm, hy, dy, hc, c0, rfl, Same.refl _, isL0, .refl _⟩
      rw [er, ← hyl]
      rfl
    · rintro m σ H' ⟨ds', ys', c', b', q, r, rfl, er, hy', dy', hc', cy, hlen, sm, isL, pm⟩
      have hyl' : ys'.length = ds.length := by rw [dy'.length, hlen]
      have hrl : r < ds.length := by have := Int.emod_lt_of_pos q (show (0 : Int) < ds.length by omega); omega
      have hrl' : r < ds'.length := by omega
      have erow : row ds' (r : Int) = row ds' q := by rw [← er, ← hlen, row_mod]
      obtain ⟨v, hv1, hv2⟩ := dy'.get (row_get? hrl')
      rw [erow] at hv2
      refine ⟨_, rfl, _, rfl, p, ys', _, v, rfl, rfl, SqL.of hy', atI_nat hv1, rfl, _, rfl, ?_⟩
      rw [dp_emp hv2]
      have ern : (q % (ds'.length : Int)).toNat = r := by rw [hlen, er]; rfl
      have eln : ∀ z : V, (ds'.set r c').length = ds.length := fun _ => by rw [List.length_set, hlen]
      obtain ⟨k1, x1, m1, rfl, _⟩ := item_parts cy.it
      obtain ⟨b1, eb1, sqb1⟩ := dp_item hc'
      cases eb1
      cases he : emp (row ds' q) with
      | false =>
        have hE : ¬ Rg.E ds' q := fun z => by unfold Rg.E at z; rw [he] at z; cases z
        have hit := cy.cl.isT cy.pos hE
        obtain ⟨k2, x2, m2, e2, _⟩ := item_parts hit
        have hv3 := hv2
        rw [e2] at hv3
        obtain ⟨b2, eb2, sqb2⟩ := dp_item hv3
        cases eb2
        have hm0 : m ≠ 0 := fun z => by
          have := isL.1
          rw [z, show q + ((0 : Nat) : Int) = q by omega] at this
          exact hE this
        have isE : ∀ ds2 : List D, (∀ i : Int, Rg.E ds2 i ↔ Rg.E ds' i) → IsLen ds2 (q + 1) (m - 1) := fun ds2 hh => by
          refine ⟨(hh _).mpr ?_, fun j hj z => isL.2 (j + 1) (by omega) ?_⟩
          · rw [show q + 1 + ((m - 1 : Nat) : Int) = q + m by omega]
            exact isL.1
          · rw [show q + ((j + 1 : Nat) : Int) = q + 1 + j by omega]
            exact (hh _).mp z
        have hposn : (0 : Int) < (ds.length : Nat) := by omega
        refine iteT ⟨fun σ' H'' => ∃ (m' : Nat), m' < m ∧ _, fun σ' H'' z => z, ?_⟩
        refine ⟨_, rfl, _, rfl, p, b2, ys', r, k2, x2, m2, rfl, .inl (SqL.of hy'), hv1, same_del.sqT sqb2, _, rfl, _, rfl, b', k1, x1, m1, _, rfl, same_del.sqT sqb1, hposn, _, rfl, _, rfl, _, _, _, rfl, hposn, _, _, rfl, rfl, _, rfl, ?_⟩
        have eg : ((r : Int) - x2) % (ys'.length : Int) = gap ds' q := by
          unfold gap
          rw [hyl', ← er, hlen, e2]
          show _ = (q - x2) % _
          rw [Int.emod_sub_emod]
        have ed : ((r : Int) - x1 % (ds.length : Int)) % (ds.length : Int) = dst ds'.length (.tuple [.int k1, .int x1, .int m1]) q := by
          unfold dst
          rw [← er, hlen]
          show _ = (q - x1) % _
          rw [Int.emod_sub_emod, Int.sub_emod, Int.emod_emod_of_dvd _ (Int.dvd_refl _), ← Int.sub_emod]
        rw [eg, ed]
        have er1 : ((r : Int) + 1) % (ds.length : Int) = (q + 1) % (ds.length : Int) := by rw [← er]; exact succ_congr (Int.emod_emod_of_dvd _ (Int.dvd_refl _))
        have hn1 := Int.emod_lt_of_pos (q + 1) (show (0 : Int) < ds.length by omega)
        have hn0 := Int.emod_nonneg (q + 1) (show (ds.length : Int) ≠ 0 by omega)
        obtain ⟨r1, er2⟩ : ∃ r1 : Nat, (q + 1) % (ds.length : Int) = r1 := ⟨((q + 1) % (ds.length : Int)).toNat, by omega⟩
        refine ite2 (fun c1 => ?_) (fun c1 => ?_)
        · have hlt : gap ds' q < dst ds'.length (.tuple [.int k1, .int x1, .int m1]) q := of_decide_eq_true c1
          have sw := cy.swap hE hlt
          rw [ern] at sw
          refine ⟨_, rfl, _, rfl, p, ys', _, _, rfl, rfl, SqL.of hy', atI_nat hv1, _, rfl, (by show 2 ≤ sizeLine; decide), fun t ht => ?_⟩
          have nt : p ≠ t := ne_of_none hy' ht
          refine ⟨t, _, rfl, SqT.of upd_same, rfl, _, _, rfl, _, _, rfl, _, rfl, _, rfl, p, ys', _, r, rfl, rfl, (upd_ne nt).trans hy', ixN_nat (by omega), rfl, ?_⟩
          refine ⟨_, rfl, _, _, rfl, rfl, _, rfl, _, _, rfl, rfl, hposn, ?_⟩
          have sn := del_new (o := .tup [V.ref b2, V.ref b']) hy' ht
          refine ⟨m - 1, by omega, ds'.set r (.tuple [.int k1, .int x1, .int m1]), ys'.set r (.ref b'), row ds' q, b2, q + 1, r1, ?_, er2, upd_same, ?_, ?_, sw, by rw [List.length_set, hlen], ?_, ?_, ?_⟩
          · rw [← er2, ← er1]; rfl
          · rw [del_upd]
            exact DpAll.set r (DpAll.keep sn dy') (hc'.keep sn)
          · rw [del_upd]
            exact hv2.keep sn
          · rw [del_upd]
            exact sm.trans sn
          · refine isE _ fun i => ?_
            have := E_set (p := q) cy.pos cy.it i
            rw [ern] at this
            rw [this]
            exact ⟨fun z => z.1, fun z => ⟨z, fun y => hE ((E_congr y).mp z)⟩⟩
          · refine .trans (perm_swap ds' r (row ds' q) _ ?_ (itemD_isT hit) rfl) pm
            rw [← erow]; exact row_get? hrl'
        · have hge : ¬ gap ds' q < dst ds'.length (.tuple [.int k1, .int x1, .int m1]) q := fun z => c1 (decide_eq_true z)
          refine ⟨_, rfl, _, _, rfl, rfl, _, rfl, _, _, rfl, rfl, hposn, ?_⟩
          refine ⟨m - 1, by omega, ds', ys', .tuple [.int k1, .int x1, .int m1], b', q + 1, r1, ?_, er2, hy', dy', hc', cy.go hE hge, hlen, sm, isE ds' fun i => Iff.rfl, pm⟩
          rw [← er2, ← er1]; rfl
      | true =>
        have hE : Rg.E ds' q := he
        obtain ⟨d1, d2, d3⟩ := cy.done hE
        rw [ern] at d1 d2 d3
        refine iteF ⟨_, rfl, _, rfl, _, rfl, p, ys', _, r, rfl, rfl, hy', ixN_nat (by omega), ?_⟩
        refine k (ds'.set r (.tuple [.int k1, .int x1, .int m1])) _ ⟨⟨_, upd_same, ?_⟩, d1, d2, d3⟩ (by rw [List.length_set, hlen]) ?_ ?_
        · rw [del_upd]
          exact DpAll.set r dy' hc'
        · refine .trans (perm_fill ds' r (row ds' q) _ ?_ ?_ rfl) pm
          · rw [← erow]; exact row_get? hrl'
          · rw [emp_none.mp he]; rfl
        · rw [del_upd]
          exact sm
end
end K40

namespace L2
open PySem PySem.Spec PyProof.Rows
theorem TyX.keep {K : PySem.W.Frag} {H H' : Hp} {v : V} {t : Value} (h : TyX K H v t) (s : Same H H') : TyX K H' v t := by
  cases h with
  | base h =>
    refine .base ?_
    cases h with
    | non => exact .non
    | bl x => exact .bl x
    | int i => exact .int i
    | str x => exact .str x
    | flt x => exact .flt x
    | lst e => exact .lst (s _ _ e)
    | frz e => exact .frz (s _ _ e)
    | tup e => exact .tup (s _ _ e)
    | dK e => exact .dK (s _ _ e)
    | dT e => exact .dT (s _ _ e)
    | ins e cl ha hn htk hm => exact .ins (s _ _ e) cl ha hn htk hm
  | byt b => exact .byt b
  | set e => exact .set (s _ _ e)
  | kList e c => exact .kList e c
  | kTuple e c => exact .kTuple e c
  | kDict e c => exact .kDict e c
  | fTuple e => exact .fTuple (s _ _ e)
  | fDict e => exact .fDict (s _ _ e)
end L2
namespace K40
open PySem PySem.Spec PyProof.Rows L2 Rg PySem.RingX
abbrev sAre : Stmt := top 26
abbrev sPlaced : Stmt := top 27
def itemsL (ds : List D) : Bool := ds.all itemD && keysDiffer ds
def areD : D → Bool | .list ds => itemsL ds | .tuple ds => itemsL ds | _ => false
/-- of data that is no list and no tuple of more than 1000 items -/
def Short2 (d : D) : Prop := ∀ ds, d = .tuple ds ∨ d = .list ds → ds.length ≤ 1000
/-- a value that is neither a list nor a tuple -/
def NoSeq (K : PySem.W.Frag) (H : Hp) (v : V) : Prop := ∃ T, TyX K H v (.type T) ∧ kitB T "list" = some false ∧ kitB T "tuple" = some false
/-- what are_items may be asked about -/
inductive Asked (K : PySem.W.Frag) (H : Hp) (v : V) : Bool → Prop where
  | dat {d : D} (h : Dp K H v d) (s : Short2 d) : Asked K H v (areD d)
  | no (h : NoSeq K H v) : Asked K H v false
/-- a list or a tuple of data, or something else -/
inductive SeqCase (K : PySem.W.Frag) (H : Hp) (v : V) : Bool → Prop where
  | lst {a : Addr} {xs : List V} {ds : List D} (e : v = .ref a) (q : SqL K H a xs) (d : DpAll K H xs ds) (l : ds.length ≤ 1000) (t : TyX K H v (.type "list")) : SeqCase K H v (itemsL ds)
  | tup {a : Addr} {xs : List V} {ds : List D} (e : v = .ref a) (q : SqT K H a xs) (d : DpAll K H xs ds) (l : ds.length ≤ 1000) (t : TyX K H v (.type "tuple")) : SeqCase K H v (itemsL ds)
  | no (h : NoSeq K H v) : SeqCase K H v false
theorem Asked.case {K : PySem.W.Frag} {H : Hp} {v : V} {b : Bool} (a : Asked K H v b) : SeqCase K H v b := by
  cases a with
  | no h => exact .no h
  | dat h s =>
    have ty := dp_ty h
    cases h with
    | non => exact .no ⟨_, ty, by kernel_rfl, by kernel_rfl⟩
    | bl b => exact .no ⟨_, ty, by kernel_rfl, by kernel_rfl⟩
    | int i => exact .no ⟨_, ty, by kernel_rfl, by kernel_rfl⟩
    | str x => exact .no ⟨_, ty, by kernel_rfl, by kernel_rfl⟩
    | lst q r => exact .lst rfl q r (s _ (.inr rfl)) ty
    | tup q r => exact .tup rfl q r (s _ (.inl rfl)) ty
section
variable {P : Program} {w : World} {K : PySem.W.Frag} {mg : Str → Option Value} {base : Heap} {CW CR fW fR : Addr}
def spAre (K : PySem.W.Frag) : Sp := fun vs H Q _ => ∃ (v : V) (b : Bool), vs = [v] ∧ Asked K H v b ∧ ∀ H', Same H H' → Q (.bl b) H'
theorem scAre : FnScope ["value", "item"] ["value"] (defScope sAre) := ⟨rfl, rfl, rfl, by decide +kernel, rfl, by decide +kernel, by decide +kernel⟩
theorem ok_are (R : Raw K mg "are_items" sAre ["value"]) (T : GT mg) (DI : Def P w K mg base CX0 "is_item" 3 ["value"] (spB K itemD)) (DK : Def P w K mg base CX0 "keys_differ" 1 ["items"] (spKeys K)) : Def P w K mg base CX0 "are_items" 4 ["value"] (spAre K) := by
  obtain ⟨fI, dI, GI, gI, kI, bI⟩ := DI
  obtain ⟨fK, dK, GK, gK, kK, bK⟩ := DK
  refine R.def fun f fd F => F.ok scAre (fun vs H Q E h => ?_) (fun cdv A outer s H vs Q E hr h => ?_)
  · obtain ⟨v, d, rfl, _⟩ := h
    rfl
  · obtain ⟨v, b, rfl, as, k⟩ := h
    have hr1 : Room 1 _ := hr.mono (by decide)
    have pr : Paired ClsV [.ty "list", .ty "tuple"] [.type "list", .type "tuple"] := .cons (.ty _) (.cons (.ty _) .nil)
    rcases as.case with @⟨a, xs, ds, rfl, q, d, l, t⟩ | @⟨a, xs, ds, rfl, q, d, l, t⟩ | ⟨T0, ty, n1, n2⟩
    · refine ⟨_, pss_cons (ps_if (pt_not (pt_val (pe_callB call_isiT (by rfl) T.isi (by decide +kernel) (pa_cons (pv 0) (pa_cons (pe_tup (pa_cons (pe_bltn (v := .ty "list") (by rfl) T.lst (by decide +kernel) rfl) (pa_cons (pe_bltn (v := .ty "tuple") (by rfl) T.tup (by decide +kernel) rfl) pa_nil))) pa_nil))))) (pss_one (ps_ret pe_bl)) pss_nil)
        (pss_one (ps_ret (pe_and (pe_callB (cr_all rfl) (by rfl) T.all (by decide +kernel) (pa_cons (pe_lc (own := [("item", 1)]) (g := gName 1) (tt := tYes) (te := tCall (spB K itemD) [] E (tCons (tVar 1) tNil)) rfl scAre.nd (pi_list (pv 0)) (blkOk_by (own := [("item", 1)]) (N := ["value", "item"]) (sc := defScope sAre) (by decide +kernel))
            (fun _ _ _ _ _ => pg_name (i := 1) scAre.nd rfl (Or.inl rfl)) (fun _ _ _ _ _ => pts_nil) (fun _ _ _ _ _ => pe_call GI hr (by rfl) gI kI bI .nil pass0 (pa_cons (pv 1) pa_nil))) pa_nil))
          (pe_one (pe_call GK hr1 (by rfl) gK kK bK .nil pass0 (pa_cons (pv 0) pa_nil)))))), ?_⟩
      refine ⟨_, rfl, (by show 2 ≤ sizeLine; decide), fun tp htp => ⟨_, tp, _, _, _, true, rfl, upd_same, pr, t.keep (same_upd htp), kitAny_cons (kit_ty (r := true) (by kernel_rfl)) (fun z => nomatch z) (fun _ => rfl), _, rfl, iteF ?_⟩⟩
      have s0 := same_upd (o := .tup [V.ty "list", V.ty "tuple"]) htp
      refine ⟨_, rfl, a, rfl, ⟨_, s0.seq q⟩, fun D hD => lc_list (K := K) (a := a) (xs := xs) (fun i H' => Same H H' ∧ H' D = some (.lst ((ds.take i).map fun d => V.bl (itemD d)))) ⟨s0.trans (same_upd hD), upd_same⟩ (fun i H' _ h => h.1.seq q) ?_ ?_⟩
      · rintro i x H1 hx ⟨s1, h1⟩
        obtain ⟨d', hd, dx⟩ := dp_at d hx
        refine ⟨rfl, _, rfl, x, d', rfl, dx.keep s1, fun H2 s2 => ?_⟩
        refine ⟨_, s2 D _ h1, ?_, (s1.trans s2).updl (s0.free hD), ?_⟩
        · rw [List.length_map, List.length_take, sizeLine_eq]; omega
        · rw [upd_same, take_more hd, List.map_append]; rfl
      · rintro H1 ⟨s1, h1⟩
        rw [d.length, List.take_length] at h1
        refine ⟨D, ds.map itemD, rfl, SqL.of (h1.trans (by rw [List.map_map]; rfl)), ?_⟩
        rw [all_map]
        cases hal : ds.all itemD with
        | false =>
          refine ⟨_, rfl, iteF ?_⟩
          have z := k H1 s1
          rw [show itemsL ds = (ds.all itemD && keysDiffer ds) from rfl, hal] at z
          exact z
        | true =>
          refine ⟨_, rfl, iteT ⟨_, rfl, a, xs, ds, rfl, .inl (s1.seq q), DpAll.keep s1 d, fun d' hd' => List.all_eq_true.mp hal d' hd', l, fun H2 s2 => ?_⟩⟩
          have z := k H2 (s1.trans s2)
          rw [show itemsL ds = (ds.all itemD && keysDiffer ds) from rfl, hal] at z
          exact z
    · refine ⟨_, pss_cons (ps_if (pt_not (pt_val (pe_callB call_isiT (by rfl) T.isi (by decide +kernel) (pa_cons (pv 0) (pa_cons (pe_tup (pa_cons (pe_bltn (v := .ty "list") (by rfl) T.lst (by decide +kernel) rfl) (pa_cons (pe_bltn (v := .ty "tuple") (by rfl) T.tup (by decide +kernel) rfl) pa_nil))) pa_nil))))) (pss_one (ps_ret pe_bl)) pss_nil)
        (pss_one (ps_ret (pe_and (pe_callB (cr_all rfl) (by rfl) T.all (by decide +kernel) (pa_cons (pe_lc (own := [("item", 1)]) (g := gName 1) (tt := tYes) (te := tCall (spB K itemD) [] E (tCons (tVar 1) tNil)) rfl scAre.nd (pi_tup (pv 0)) (blkOk_by (own := [("item", 1)]) (N := ["value", "item"]) (sc := defScope sAre) (by decide +kernel))
            (fun _ _ _ _ _ => pg_name (i := 1) scAre.nd rfl (Or.inl rfl)) (fun _ _ _ _ _ => pts_nil) (fun _ _ _ _ _ => pe_call GI hr (by rfl) gI kI bI .nil pass0 (pa_cons (pv 1) pa_nil))) pa_nil))
          (pe_one (pe_call GK hr1 (by rfl) gK kK bK .nil pass0 (pa_cons (pv 0) pa_nil)))))), ?_⟩
      refine ⟨_, rfl, (by show 2 ≤ sizeLine; decide), fun tp htp => ⟨_, tp, _, _, _, true, rfl, upd_same, pr, t.keep (same_upd htp), kitAny_cons (kit_ty (r := false) (by kernel_rfl)) (fun _ => kitAny_cons (kit_ty (r := true) (by kernel_rfl)) (fun z => nomatch z) (fun _ => rfl)) (fun z => nomatch z), _, rfl, iteF ?_⟩⟩
      have s0 := same_upd (o := .tup [V.ty "list", V.ty "tuple"]) htp
      refine ⟨_, rfl, a, rfl, ⟨_, s0.sqT q⟩, fun D hD => lc_tup (K := K) (a := a) (xs := xs) (fun i H' => Same H H' ∧ H' D = some (.lst ((ds.take i).map fun d => V.bl (itemD d)))) ⟨s0.trans (same_upd hD), upd_same⟩ (fun i H' _ h => h.1.sqT q) ?_ ?_⟩
      · rintro i x H1 hx ⟨s1, h1⟩
        obtain ⟨d', hd, dx⟩ := dp_at d hx
        refine ⟨rfl, _, rfl, x, d', rfl, dx.keep s1, fun H2 s2 => ?_⟩
        refine ⟨_, s2 D _ h1, ?_, (s1.trans s2).updl (s0.free hD), ?_⟩
        · rw [List.length_map, List.length_take, sizeLine_eq]; omega
        · rw [upd_same, take_more hd, List.map_append]; rfl
      · rintro H1 ⟨s1, h1⟩
        rw [d.length, List.take_length] at h1
        refine ⟨D, ds.map itemD, rfl, SqL.of (h1.trans (by rw [List.map_map]; rfl)), ?_⟩
        rw [all_map]
        cases hal : ds.all itemD with
        | false =>
          refine ⟨_, rfl, iteF ?_⟩
          have z := k H1 s1
          rw [show itemsL ds = (ds.all itemD && keysDiffer ds) from rfl, hal] at z
          exact z
        | true =>
          refine ⟨_, rfl, iteT ⟨_, rfl, a, xs, ds, rfl, .inr (s1.sqT q), DpAll.keep s1 d, fun d' hd' => List.all_eq_true.mp hal d' hd', l, fun H2 s2 => ?_⟩⟩
          have z := k H2 (s1.trans s2)
          rw [show itemsL ds = (ds.all itemD && keysDiffer ds) from rfl, hal] at z
          exact z
    · refine ⟨_, pss_cons (ps_if (pt_not (pt_val (pe_callB call_isiT (by rfl) T.isi (by decide +kernel) (pa_cons (pv 0) (pa_cons (pe_tup (pa_cons (pe_bltn (v := .ty "list") (by rfl) T.lst (by decide +kernel) rfl) (pa_cons (pe_bltn (v := .ty "tuple") (by rfl) T.tup (by decide +kernel) rfl) pa_nil))) pa_nil))))) (pss_one (ps_ret pe_bl)) pss_nil)
        (pss_one (ps_ret (pe_and (pe_callB (cr_all rfl) (by rfl) T.all (by decide +kernel) (pa_cons (pe_lc (own := [("item", 1)]) (g := gName 1) (tt := tYes) (te := tCall (spB K itemD) [] E (tCons (tVar 1) tNil)) rfl scAre.nd (pi_tup (pv 0)) (blkOk_by (own := [("item", 1)]) (N := ["value", "item"]) (sc := defScope sAre) (by decide +kernel))
            (fun _ _ _ _ _ => pg_name (i := 1) scAre.nd rfl (Or.inl rfl)) (fun _ _ _ _ _ => pts_nil) (fun _ _ _ _ _ => pe_call GI hr (by rfl) gI kI bI .nil pass0 (pa_cons (pv 1) pa_nil))) pa_nil))
          (pe_one (pe_call GK hr1 (by rfl) gK kK bK .nil pass0 (pa_cons (pv 0) pa_nil)))))), ?_⟩
      refine ⟨_, rfl, (by show 2 ≤ sizeLine; decide), fun tp htp => ⟨v, tp, _, _, _, false, rfl, upd_same, pr, ty.keep (same_upd htp), kitAny_cons (kit_ty n1) (fun _ => kitAny_cons (kit_ty n2) (fun _ => kitAny_nil) (fun z => nomatch z)) (fun z => nomatch z), _, rfl, iteT ?_⟩⟩
      exact k _ (same_upd htp)
end
end K40

namespace L2
open PySem PySem.Spec PyProof.Rows
theorem Same.todel {H H' : Hp} {p : Addr} (s : Same H H') (hp : H p = none) : Same H (L2.del H' p) := fun b o h => by
  rw [del_ne (ne_of_none h hp)]
  exact s b o h
end L2
namespace K40
open PySem PySem.Spec PyProof.Rows L2 Rg PySem.RingX
theorem flat_rep {α : Type} (x : α) : ∀ n, (List.replicate n [x]).flatten = List.replicate n x
  | 0 => rfl
  | n + 1 => by rw [List.replicate_succ, List.replicate_succ, List.flatten_cons, flat_rep x n]; rfl
theorem row_rep (m : Nat) (i : Int) : row (List.replicate m .none) i = .none := by
  unfold row
  rw [List.getD_eq_getElem?_getD, List.getElem?_replicate]
  split <;> rfl
theorem dp_rep {K : PySem.W.Frag} {H : Hp} : ∀ n, DpAll K H (List.replicate n .non) (List.replicate n .none)
  | 0 => .nil
  | n + 1 => .cons .non (dp_rep n)
theorem filter_rep (m : Nat) : (List.replicate m (.none : D)).filter isT = [] := by
  refine List.filter_eq_nil_iff.mpr fun d hd => ?_
  rw [List.eq_of_mem_replicate hd]
  exact Bool.false_ne_true
theorem laid_rep {K : PySem.W.Frag} {H : Hp} {p : Addr} {m : Nat} (h : H p = some (.lst (List.replicate m .non))) : Laid K H p (List.replicate m .none) :=
  ⟨⟨_, h, dp_rep m⟩, fun d hd => .inl (by rw [List.eq_of_mem_replicate hd]; rfl), fun r ht => (by rw [row_rep] at ht; cases ht), fun r ht => (by rw [row_rep] at ht; cases ht)⟩
section
variable {P : Program} {w : World} {K : PySem.W.Frag} {mg : Str → Option Value} {base : Heap} {CW CR fW fR : Addr}
/-- what placed answers with -/
structure IsPlaced (rs ds : List D) (m : Nat) : Prop where
  len : rs.length = m
  cl : Clean rs
  R : Reached rs
  O : InOrder rs
  pm : (rs.filter isT).Perm ds
def spPlaced (K : PySem.W.Frag) (CW CR : Addr) : Sp := fun vs H Q E => ∃ (v : V) (m : Nat) (u : V) (e : D), vs = [v, .int (m : Nat), u] ∧ Dp K H u e ∧ Short e ∧ m ≤ 1000 ∧
  ((∃ d ds, Dp K H v d ∧ (d = .tuple ds ∨ d = .list ds) ∧ ds.length ≤ 1000 ∧ (itemsL ds = true → ds.length < m → wayD e = true → ∀ x H' rs, Dp K H' x (.tuple rs) → IsPlaced rs ds m → Same H H' → Q x H') ∧
      (itemsL ds = true → ds.length < m → wayD e = false → Rz CW "way" u H E) ∧ (¬ (itemsL ds = true ∧ ds.length < m) → Rz CR "ring" v H E)) ∨
    (Asked K H v false ∧ Rz CR "ring" v H E))
theorem scPlaced : FnScope ["items", "many", "way", "rows", "item"] ["items", "many", "way"] (defScope sPlaced) := ⟨rfl, rfl, rfl, by decide +kernel, rfl, by decide +kernel, by decide +kernel⟩
theorem ok_placed (R : Raw K mg "placed" sPlaced ["items", "many", "way"]) (T : GT mg) (X : EX P K mg CW CR fW fR) (DA : Def P w K mg base CX0 "are_items" 4 ["value"] (spAre K)) (DW : Def P w K mg base (L2.CX P w) "check_way" 2 ["way"] (spCk K CW "way" wayD)) (DS : Def P w K mg base CX0 "settle" 3 ["rows", "item"] (spSettle K)) : Def P w K mg base (L2.CX P w) "placed" 5 ["items", "many", "way"] (spPlaced K CW CR) := by
  obtain ⟨fA, dA, GA, gA, kA, bA⟩ := DA
  obtain ⟨fW, dW, GW, gW, kW, bW⟩ := DW
  obtain ⟨fS, dS, GS, gS, kS, bS⟩ := DS
  refine R.def fun f fd F => F.okX scPlaced (fun vs H Q E h => ?_) (fun cdv A outer s H vs Q E hr h => ?_)
  · obtain ⟨v, m, u, e, rfl, _⟩ := h
    rfl
  · obtain ⟨v, m, u, e, rfl, he, hS, hm, h⟩ := h
    have hr3 : Room 3 _ := hr.mono (by decide)
    have hr2 : Room 2 _ := hr.mono (by decide)
    have hr1 : Room 1 _ := hr.mono (by decide)
    rcases h with ⟨d, ds, hd, hds, hl, k1, k2, k3⟩ | ⟨hA, k⟩
    · have as : Asked K H v (areD d) := .dat hd (fun ds' h => by
        rcases hds with e1 | e1 <;> rcases h with e2 | e2 <;> rw [e1] at e2 <;> cases e2 <;> exact hl)
      have ha : areD d = itemsL ds := by rcases hds with e1 | e1 <;> rw [e1] <;> rfl
      rcases hds with e1 | e1
      · subst e1
        obtain ⟨a, xs, rfl, sq, dp⟩ := dp_tup hd
        refine ⟨_, pss_cons (ps_if (PW.pt (pw_or (pt_not (pt_val (pe_call GA hr (by rfl) gA kA bA .nil pass0 (pa_cons (pv 0) pa_nil)))) (pw_or1 (pt_cmpR op_ge (pe_callB call_len_seq (by rfl) T.len PySem.boot_len (pa_cons (pv 0) pa_nil)) (pv 1) (nomark _)))))
            (pss_one (ps_raiseX rfl X.ring hr1 (takes_of rfl rfl rfl rfl) (pa_cons (pv 0) pa_nil))) pss_nil)
          (pss_cons (ps_expr (pe_call (E := E) GW hr2 (by rfl) gW kW bW .nil (passes_call (takes_of rfl rfl rfl rfl) (fun _ _ _ _ z => z)) (pa_cons (pv 2) pa_nil)))
          (PSs.nox (pss_cons (ps_set (i := 3) scPlaced.nd rfl (Or.inl rfl) (pe_op op_rep (pe_lst (pa_cons pe_non pa_nil)) (pv 1)))
          (pss_cons (ps_for PassesOwn.never rfl (pi_tup (pv 0)) (pg_name (i := 4) scPlaced.nd rfl (Or.inl rfl)) (pss_one (ps_expr (pe_call GS hr3 (by rfl) gS kS bS .nil pass0 (pa_cons (pv 3) (pa_cons (pv 4) pa_nil))))))
          (pss_one (ps_ret (pe_tupleOf (by rfl) T.tup (pv 3)))))))), ?_⟩
        refine ⟨_, rfl, _, _, rfl, as, fun H1 s1 => ⟨_, rfl, ?_⟩⟩
        rw [ha] at *
        have hxl := dp.length
        cases hi : itemsL ds with
        | false => exact iteT ⟨_, rfl, rfl, fun h => (nomatch h), fun _ dd hdd => k3 (fun z => by rw [hi] at z; cases z.1) H1 dd s1 hdd⟩
        | true =>
          refine iteF ⟨_, rfl, a, xs, rfl, .inr (s1.sqT sq), _, rfl, _, _, rfl, rfl, _, rfl, ?_⟩
          refine ite2 (fun c1 => ?_) (fun c1 => ?_)
          · have hge : (m : Int) ≤ xs.length := of_decide_eq_true c1
            exact ⟨_, rfl, rfl, fun h => (nomatch h), fun _ dd hdd => k3 (fun z => by have := z.2; omega) H1 dd s1 hdd⟩
          · have hlt : ds.length < m := by
              have : ¬ (m : Int) ≤ xs.length := fun z => c1 (decide_eq_true z)
              omega
            refine ⟨_, rfl, u, e, rfl, he.keep s1, hS, fun wt H2 s2 => ?_, fun wf => (k2 hi hlt wf).keep s1⟩
            have s12 := s1.trans s2
            refine ⟨(by show 1 ≤ sizeLine; decide), fun l0 hl0 => ⟨_, rfl, l0, _, [V.non], rfl, rfl, upd_same, by omega, by omega, (by show 1 * m ≤ sizeLine; rw [sizeLine_eq]; omega), fun p hp => ?_⟩⟩
            have er : (List.replicate (m : Int).toNat [V.non]).flatten = List.replicate m V.non := by rw [Int.toNat_natCast, flat_rep]
            rw [er]
            have s13 : Same H (upd H2 l0 (.lst [V.non])) := s12.trans (same_upd hl0)
            have hpH : H p = none := s13.free hp
            have s14 := s13.trans (same_upd (o := .lst (List.replicate m V.non)) hp)
            refine ⟨_, rfl, a, rfl, ⟨_, s14.sqT sq⟩, for_tup (xs := xs) (fun i σ H' => (∃ x4, σ = [some (V.ref a), some (V.int (m : Nat)), some u, some (V.ref p), x4]) ∧ Same H (del H' p) ∧ ∃ rs, Laid K H' p rs ∧ rs.length = m ∧ (rs.filter isT).Perm (ds.take i)) ⟨⟨_, rfl⟩, s14.todel hpH, _, laid_rep upd_same, List.length_replicate, ?_⟩ (fun i σ H' _ h => (h.2.1.trans same_del).sqT sq) ?_ ?_⟩
            · rw [filter_rep, List.take_zero]
            · rintro i x σ H3 hx ⟨⟨x4, rfl⟩, s3, rs, la, hlen, pm⟩
              obtain ⟨d', hd', dx⟩ := dp_at dp hx
              have hit : itemD d' = true := by
                have z : (ds.all itemD && keysDiffer ds) = true := hi
                exact List.all_eq_true.mp (Bool.and_eq_true_iff.mp z).1 d' (List.mem_of_getElem? hd')
              obtain ⟨ys, _, dy⟩ := la.ex
              obtain ⟨b, rfl⟩ : ∃ b, x = V.ref b := by
                obtain ⟨k', x', m', e', _⟩ := item_parts hit
                rw [e'] at dx
                obtain ⟨b, eb, _⟩ := dp_item dx
                exact ⟨b, eb⟩
              have hil : i < ds.length := (List.getElem?_eq_some_iff.mp hd').1
              have fl : (rs.filter isT).length < rs.length := by rw [pm.length_eq, List.length_take]; omega
              refine ⟨_, rfl, _, rfl, p, b, rs, d', rfl, la, open_of la.cl fl, by omega, by omega, dx.keep s3, hit, fun ds' H4 la' len' pm' s4 => ?_⟩
              refine ⟨⟨_, rfl⟩, s3.trans s4, ds', la', by omega, ?_⟩
              rw [take_more hd']
              refine pm'.trans ((pm.cons d').trans ?_)
              exact (List.perm_append_singleton d' (ds.take i)).symm
            · rintro σ H3 ⟨⟨x4, rfl⟩, s3, rs, la, hlen, pm⟩
              obtain ⟨ys, hys, dy⟩ := la.ex
              rw [hxl, List.take_length] at pm
              refine ⟨_, rfl, .inl ⟨p, ys, rfl, SqL.of hys, fun q hq => ?_⟩⟩
              have s5 := same_upd (o := .tup ys) hq
              exact k1 hi hlt wt _ _ rs (.tup (SqT.of upd_same) (DpAll.keep (same_del.trans s5) dy)) ⟨hlen, la.cl, la.R, la.O, pm⟩ ((s3.trans same_del).trans s5)
      · subst e1
        obtain ⟨a, xs, rfl, sq, dp⟩ : ∃ a xs, v = .ref a ∧ SqL K H a xs ∧ DpAll K H xs ds := by
          cases hd with
          | lst q r => exact ⟨_, _, rfl, q, r⟩
        refine ⟨_, pss_cons (ps_if (PW.pt (pw_or (pt_not (pt_val (pe_call GA hr (by rfl) gA kA bA .nil pass0 (pa_cons (pv 0) pa_nil)))) (pw_or1 (pt_cmpR op_ge (pe_callB call_len_seq (by rfl) T.len PySem.boot_len (pa_cons (pv 0) pa_nil)) (pv 1) (nomark _)))))
            (pss_one (ps_raiseX rfl X.ring hr1 (takes_of rfl rfl rfl rfl) (pa_cons (pv 0) pa_nil))) pss_nil)
          (pss_cons (ps_expr (pe_call (E := E) GW hr2 (by rfl) gW kW bW .nil (passes_call (takes_of rfl rfl rfl rfl) (fun _ _ _ _ z => z)) (pa_cons (pv 2) pa_nil)))
          (PSs.nox (pss_cons (ps_set (i := 3) scPlaced.nd rfl (Or.inl rfl) (pe_op op_rep (pe_lst (pa_cons pe_non pa_nil)) (pv 1)))
          (pss_cons (ps_for PassesOwn.never rfl (pi_list (pv 0)) (pg_name (i := 4) scPlaced.nd rfl (Or.inl rfl)) (pss_one (ps_expr (pe_call GS hr3 (by rfl) gS kS bS .nil pass0 (pa_cons (pv 3) (pa_cons (pv 4) pa_nil))))))
          (pss_one (ps_ret (pe_tupleOf (by rfl) T.tup (pv 3)))))))), ?_⟩
        refine ⟨_, rfl, _, _, rfl, as, fun H1 s1 => ⟨_, rfl, ?_⟩⟩
        rw [ha] at *
        have hxl := dp.length
        cases hi : itemsL ds with
        | false => exact iteT ⟨_, rfl, rfl, fun h => (nomatch h), fun _ dd hdd => k3 (fun z => by rw [hi] at z; cases z.1) H1 dd s1 hdd⟩
        | true =>
          refine iteF ⟨_, rfl, a, xs, rfl, .inl (s1.seq sq), _, rfl, _, _, rfl, rfl, _, rfl, ?_⟩
          refine ite2 (fun c1 => ?_) (fun c1 => ?_)
          · have hge : (m : Int) ≤ xs.length := of_decide_eq_true c1
            exact ⟨_, rfl, rfl, fun h => (nomatch h), fun _ dd hdd => k3 (fun z => by have := z.2; omega) H1 dd s1 hdd⟩
          · have hlt : ds.length < m := by
              have : ¬ (m : Int) ≤ xs.length := fun z => c1 (decide_eq_true z)
              omega
            refine ⟨_, rfl, u, e, rfl, he.keep s1, hS, fun wt H2 s2 => ?_, fun wf => (k2 hi hlt wf).keep s1⟩
            have s12 := s1.trans s2
            refine ⟨(by show 1 ≤ sizeLine; decide), fun l0 hl0 => ⟨_, rfl, l0, _, [V.non], rfl, rfl, upd_same, by omega, by omega, (by show 1 * m ≤ sizeLine; rw [sizeLine_eq]; omega), fun p hp => ?_⟩⟩
            have er : (List.replicate (m : Int).toNat [V.non]).flatten = List.replicate m V.non := by rw [Int.toNat_natCast, flat_rep]
            rw [er]
            have s13 : Same H (upd H2 l0 (.lst [V.non])) := s12.trans (same_upd hl0)
            have hpH : H p = none := s13.free hp
            have s14 := s13.trans (same_upd (o := .lst (List.replicate m V.non)) hp)
            refine ⟨_, rfl, a, rfl, ⟨_, s14.seq sq⟩, for_list (xs := xs) (fun i σ H' => (∃ x4, σ = [some (V.ref a), some (V.int (m : Nat)), some u, some (V.ref p), x4]) ∧ Same H (del H' p) ∧ ∃ rs, Laid K H' p rs ∧ rs.length = m ∧ (rs.filter isT).Perm (ds.take i)) ⟨⟨_, rfl⟩, s14.todel hpH, _, laid_rep upd_same, List.length_replicate, ?_⟩ (fun i σ H' _ h => (h.2.1.trans same_del).seq sq) ?_ ?_⟩
            · rw [filter_rep, List.take_zero]
            · rintro i x σ H3 hx ⟨⟨x4, rfl⟩, s3, rs, la, hlen, pm⟩
              obtain ⟨d', hd', dx⟩ := dp_at dp hx
              have hit : itemD d' = true := by
                have z : (ds.all itemD && keysDiffer ds) = true := hi
                exact List.all_eq_true.mp (Bool.and_eq_true_iff.mp z).1 d' (List.mem_of_getElem? hd')
              obtain ⟨ys, _, dy⟩ := la.ex
              obtain ⟨b, rfl⟩ : ∃ b, x = V.ref b := by
                obtain ⟨k', x', m', e', _⟩ := item_parts hit
                rw [e'] at dx
                obtain ⟨b, eb, _⟩ := dp_item dx
                exact ⟨b, eb⟩
              have hil : i < ds.length := (List.getElem?_eq_some_iff.mp hd').1
              have fl : (rs.filter isT).length < rs.length := by rw [pm.length_eq, List.length_take]; omega
              refine ⟨_, rfl, _, rfl, p, b, rs, d', rfl, la, open_of la.cl fl, by omega, by omega, dx.keep s3, hit, fun ds' H4 la' len' pm' s4 => ?_⟩
              refine ⟨⟨_, rfl⟩, s3.trans s4, ds', la', by omega, ?_⟩
              rw [take_more hd']
              refine pm'.trans ((pm.cons d').trans ?_)
              exact (List.perm_append_singleton d' (ds.take i)).symm
            · rintro σ H3 ⟨⟨x4, rfl⟩, s3, rs, la, hlen, pm⟩
              obtain ⟨ys, hys, dy⟩ := la.ex
              rw [hxl, List.take_length] at pm
              refine ⟨_, rfl, .inl ⟨p, ys, rfl, SqL.of hys, fun q hq => ?_⟩⟩
              have s5 := same_upd (o := .tup ys) hq
              exact k1 hi hlt wt _ _ rs (.tup (SqT.of upd_same) (DpAll.keep (same_del.trans s5) dy)) ⟨hlen, la.cl, la.R, la.O, pm⟩ ((s3.trans same_del).trans s5)
    · refine ⟨_, pss_cons (ps_if (PW.pt (pw_or (pt_not (pt_val (pe_call GA hr (by rfl) gA kA bA .nil pass0 (pa_cons (pv 0) pa_nil)))) (pw_or1 (pt_cmpR op_ge (pe_callB call_len_seq (by rfl) T.len PySem.boot_len (pa_cons (pv 0) pa_nil)) (pv 1) (nomark _)))))
            (pss_one (ps_raiseX rfl X.ring hr1 (takes_of rfl rfl rfl rfl) (pa_cons (pv 0) pa_nil))) pss_nil)
          (pss_cons (ps_expr (pe_call (E := E) GW hr2 (by rfl) gW kW bW .nil (passes_call (takes_of rfl rfl rfl rfl) (fun _ _ _ _ z => z)) (pa_cons (pv 2) pa_nil)))
          (PSs.nox (pss_cons (ps_set (i := 3) scPlaced.nd rfl (Or.inl rfl) (pe_op op_rep (pe_lst (pa_cons pe_non pa_nil)) (pv 1)))
          (pss_cons (ps_for PassesOwn.never rfl (pi_list (pv 0)) (pg_name (i := 4) scPlaced.nd rfl (Or.inl rfl)) (pss_one (ps_expr (pe_call GS hr3 (by rfl) gS kS bS .nil pass0 (pa_cons (pv 3) (pa_cons (pv 4) pa_nil))))))
          (pss_one (ps_ret (pe_tupleOf (by rfl) T.tup (pv 3)))))))), ?_⟩
      refine ⟨_, rfl, v, false, rfl, hA, fun H1 s1 => ⟨_, rfl, iteT ?_⟩⟩
      exact ⟨_, rfl, rfl, fun h => (nomatch h), fun _ dd hdd => k H1 dd s1 hdd⟩
end
end K40

namespace K40
open PySem PySem.Spec PyProof.Rows L2 Rg PySem.RingX
abbrev sRef : Stmt := top 35
theorem scRef : FnScope ["action", "e"] ["action"] (defScope sRef) := ⟨rfl, rfl, rfl, by decide +kernel, rfl, by decide +kernel, by decide +kernel⟩
theorem xf_of {prog : Program} {K : PySem.W.Frag} {mg : Str → Option Value} {C fI : Addr} {nm : Str} {fs : List Str} (T : ExTxt prog K mg C fI nm fs) : XfC K C := ⟨T.ga, T.gg, T.exC, T.hdC⟩
/-- what except clauses ask of the two classes -/
structure Rel2 (K : PySem.W.Frag) (CW CR : Addr) : Prop where
  rr : PySem.W.exmOne K (.ref CR) (.ref CR) = some true
  wr : PySem.W.exmOne K (.ref CW) (.ref CR) = some false
  ww : PySem.W.exmOne K (.ref CW) (.ref CW) = some true
/-- told: ("ring", e.ring), ("way", e.way) or None -/
def ToldE (CW CR : Addr) (Q : VK) : XK := fun cls d H' =>
  (cls = .ref CR ∧ ∃ dd v, d = some dd ∧ H' dd = some (.xd (xdl ["ring"] [v])) ∧ ∀ p, H' p = none → Q (.ref p) (upd H' p (.tup [.str "ring", v]))) ∨
  (cls = .ref CW ∧ ∃ dd v, d = some dd ∧ H' dd = some (.xd (xdl ["way"] [v])) ∧ ∀ p, H' p = none → Q (.ref p) (upd H' p (.tup [.str "way", v])))
theorem takes_len {X : Cx} {W : WX} (tk : Takes X W) : Takes X (fun cls d σ H => σ.length = X.N.length → W cls d σ H) := fun u s' ⟨a, B, sI, pins, σ, H, cls, d, e, I, nb, up, sky, na, os, ag, w⟩ =>
  tk u s' ⟨a, B, sI, pins, σ, H, cls, d, e, I, nb, up, sky, na, os, ag, w I.len⟩
theorem set_len2 {σ : L2.St} (h : σ.length = 2) (v : Option V) : (σ.set 1 v)[1]? = some v := by
  rw [List.getElem?_set, if_pos rfl, if_pos (by omega)]
def TRef (CW CR : Addr) : (XK → Hp → VK → Prop) → Hp → VK → Prop := fun tl H Q => tl (ToldE CW CR Q) H fun _ H' => Q .non H'
theorem ref_gives {X : Cx} {CW CR fW fR g : Addr} {cdg : Value} {q : Str} (EXt : EX X.prog X.K X.mg CW CR fW fR) (S : Rel2 X.K CW CR) : LamX.GivesTo X ["action", "e"] "_law_refused" (defScope sRef) g cdg (defBody sRef) "action" q (TRef CW CR) := by
  intro f c' s H Q tl act hc h
  refine ⟨_, pss_cons (ps_try_cl (Wout := fun _ _ _ _ => False)
      (tb := fun W D σ H => ∃ Ech : XK, (∀ (cls : Value) (d : Option Addr) (σ' : L2.St) (H' : Hp), Ech cls d H' → σ'.length = 2 → W cls d σ' H') ∧ σ[0]? = some (some (.ref f)) ∧ H c' = some (LamX.CodeO c' q) ∧ tl Ech H (fun _ H' => D.nx σ H'))
      rfl rfl scRef.nd LamX.takes0 (fun W pn xe tk _ => ?_)
      (.named (i := 1) rfl rfl ⟨rfl, by decide, Or.inl EXt.ring.gC⟩ (fun a oe cls d pn hz hf _ => pss_one (ps_ret (pe_tup (pa_cons pe_str (pa_cons (pe_xf (xf_of EXt.ring) (EXt.ring.noN _ List.mem_cons_self) hz hf (pv 1)) pa_nil)))))
      (.named (i := 1) rfl rfl ⟨rfl, by decide, Or.inl EXt.way.gC⟩ (fun a oe cls d pn hz hf _ => pss_one (ps_ret (pe_tup (pa_cons pe_str (pa_cons (pe_xf (xf_of EXt.way) (EXt.way.noN _ List.mem_cons_self) hz hf (pv 1)) pa_nil)))))
      .nil)))
    (pss_one (ps_ret pe_non)), ?_⟩
  · refine ⟨fun pins s' σ H' D I h' => ?_⟩
    obtain ⟨Ech, hW, h1, h2, h3⟩ := h'
    exact (pss_one (ps_expr (act _ pn xe Ech _ _ (takes_len tk) (fun cls d σ' H' h z => hW cls d σ' H' h z)))).run pins s' σ H' D I ⟨h1, h2, h3⟩
  · refine ⟨ToldE CW CR Q, fun cls d σ' H' w hz2 => ?_, rfl, hc, h⟩
    rcases w with ⟨rfl, dd, v, rfl, hd, k⟩ | ⟨rfl, dd, v, rfl, hd, k⟩
    · exact ⟨true, S.rr, fun _ a0 _ => ⟨_, set_len2 hz2 _, rfl, rfl, dd, _, _, rfl, hd, rfl, (by show 2 ≤ sizeLine; decide), fun p hp => k p hp⟩, fun q => nomatch q⟩
    · exact ⟨false, S.wr, (fun q => nomatch q), fun _ => ⟨true, S.ww, fun _ a0 _ => ⟨_, set_len2 hz2 _, rfl, rfl, dd, _, _, rfl, hd, rfl, (by show 2 ≤ sizeLine; decide), fun p hp => k p hp⟩, fun q => nomatch q⟩⟩
end K40

namespace K40
open PySem PySem.Spec PyProof.Rows L2
abbrev sBag : Stmt := top 29
abbrev sDraw : Stmt := top 30

/-! ### the bag -/
def bagK (c : Addr) (at_ dg ct fo : Int) : List (Key × V) := [(.inr "cells", .ref c), (.inr "at", .int at_), (.inr "digits", .int dg), (.inr "count", .int ct), (.inr "fold", .int fo)]
theorem bag_cells (c : Addr) (at_ dg ct fo : Int) : valV (bagK c at_ dg ct fo) (.inr "cells") = some (.ref c) := by kernel_rfl
theorem bag_at (c : Addr) (at_ dg ct fo : Int) : valV (bagK c at_ dg ct fo) (.inr "at") = some (.int at_) := by kernel_rfl
theorem bag_dg (c : Addr) (at_ dg ct fo : Int) : valV (bagK c at_ dg ct fo) (.inr "digits") = some (.int dg) := by kernel_rfl
theorem bag_ct (c : Addr) (at_ dg ct fo : Int) : valV (bagK c at_ dg ct fo) (.inr "count") = some (.int ct) := by kernel_rfl
theorem bag_fo (c : Addr) (at_ dg ct fo : Int) : valV (bagK c at_ dg ct fo) (.inr "fold") = some (.int fo) := by kernel_rfl
theorem put_at (c : Addr) (at_ dg ct fo z : Int) : putK (bagK c at_ dg ct fo) (.inr "at") (.int z) = bagK c z dg ct fo := by kernel_rfl
theorem put_dg (c : Addr) (at_ dg ct fo z : Int) : putK (bagK c at_ dg ct fo) (.inr "digits") (.int z) = bagK c at_ z ct fo := by kernel_rfl
theorem put_ct (c : Addr) (at_ dg ct fo z : Int) : putK (bagK c at_ dg ct fo) (.inr "count") (.int z) = bagK c at_ dg z fo := by kernel_rfl
theorem put_fo (c : Addr) (at_ dg ct fo z : Int) : putK (bagK c at_ dg ct fo) (.inr "fold") (.int z) = bagK c at_ dg ct z := by kernel_rfl
theorem bag_mk (c : Addr) (fo : Int) : mergeK [] (bagK c 0 0 0 fo) = bagK c 0 0 0 fo := by kernel_rfl

/-- a bag at b over the script ns, its cells at c, from which ct draws were made -/
structure BagAt (H : Hp) (b c : Addr) (ns : List Int) (ct : Int) : Prop where
  ex : ∃ (at_ dg fo : Int), H b = some (.dK (bagK c at_ dg ct fo)) ∧ H c = some (.lst (ns.map V.int)) ∧ 0 ≤ at_ ∧ 0 ≤ dg ∧ 0 ≤ fo ∧ fo < 2147483587
theorem BagAt.keep {H H' : Hp} {b c : Addr} {ns : List Int} {ct : Int} (B : BagAt H b c ns ct) (s : Same H H') : BagAt H' b c ns ct := by
  obtain ⟨at_, dg, fo, h1, h2, h3⟩ := B.ex
  exact ⟨at_, dg, fo, s _ _ h1, s _ _ h2, h3⟩
theorem BagAt.updl {H : Hp} {b c D : Addr} {ns : List Int} {ct : Int} {o : HO} (B : BagAt H b c ns ct) (nb : b ≠ D) (nc : c ≠ D) : BagAt (upd H D o) b c ns ct := by
  obtain ⟨at_, dg, fo, h1, h2, h3⟩ := B.ex
  exact ⟨at_, dg, fo, by rw [upd_ne nb]; exact h1, by rw [upd_ne nc]; exact h2, h3⟩
theorem BagAt.dk {H : Hp} {b c : Addr} {ns : List Int} {ct : Int} (B : BagAt H b c ns ct) : ∃ kvs, H b = some (.dK kvs) :=
  let ⟨_, _, _, h, _⟩ := B.ex; ⟨_, h⟩
/-- a new object is neither the bag nor its cells -/
theorem BagAt.off {H : Hp} {b c D : Addr} {ns : List Int} {ct : Int} (B : BagAt H b c ns ct) (hD : H D = none) : b ≠ D ∧ c ≠ D := by
  obtain ⟨at_, dg, fo, h1, h2, _⟩ := B.ex
  exact ⟨ne_of_none h1 hD, ne_of_none h2 hD⟩
/-- all that was tracked is as it was, but what stands at b -/
def SameBut (b : Addr) (H H' : Hp) : Prop := ∀ q o, q ≠ b → H q = some o → H' q = some o
theorem SameBut.refl (b : Addr) (H : Hp) : SameBut b H H := fun _ _ _ h => h
theorem SameBut.trans {b : Addr} {H H1 H2 : Hp} (x : SameBut b H H1) (y : SameBut b H1 H2) : SameBut b H H2 := fun q o hq h => y q o hq (x q o hq h)
theorem SameBut.of {b : Addr} {H H1 : Hp} (x : Same H H1) : SameBut b H H1 := fun q o _ h => x q o h
theorem SameBut.upd {b : Addr} {H H1 : Hp} (x : SameBut b H H1) (o : HO) : SameBut b H (upd H1 b o) := fun q u hq h => by rw [upd_ne hq]; exact x q u hq h

def spDraw : Sp := fun vs H Q _ => ∃ (b c : Addr) (lim : Int) (ns : List Int) (ct : Int), vs = [.ref b, .int lim] ∧ BagAt H b c ns ct ∧ 0 ≤ ct ∧ ct < 1000000 ∧ 0 < lim ∧ lim < 2 ^ 200 ∧ ns.length < 1000 ∧
  ∀ (r : Int) (H' : Hp), 0 ≤ r → r < lim → BagAt H' b c ns (ct + 1) → SameBut b H H' → Q (.int r) H'
def spBag (K : PySem.W.Frag) : Sp := fun vs H Q _ => ∃ (a : Addr) (ns : List Int), vs = [.ref a] ∧ SqL K H a (ns.map V.int) ∧ ns.length < 1000 ∧ ∀ (b c : Addr) (H' : Hp), H b = none → BagAt H' b c ns 0 → Same H H' → Q (.ref b) H'

theorem sq_upd {K : PySem.W.Frag} {H : Hp} {a b : Addr} {xs : List V} {kvs : List (Key × V)} {o : HO} (h : SqL K H a xs) (hb : H b = some (.dK kvs)) : SqL K (upd H b o) a xs := by
  rcases h with (h | ⟨u, h⟩) | h
  · exact .inl (.inl (by rw [upd_ne (ne_of h hb (fun z => nomatch z))]; exact h))
  · exact .inl (.inr ⟨u, by rw [upd_ne (ne_of h hb (fun z => nomatch z))]; exact h⟩)
  · exact .inr h
theorem small5 {c : Addr} {at_ dg ct fo : Int} : (bagK c at_ dg ct fo).length < sizeLine := by show 5 < sizeLine; decide
/-- the bag as it stands, in a def that draws -/
structure BG (K : PySem.W.Frag) (H0 H : Hp) (b c : Addr) (ns : List Int) (at_ dg ct fo : Int) : Prop where
  h : H b = some (.dK (bagK c at_ dg ct fo))
  q : SqL K H c (ns.map V.int)
  s : SameBut b H0 H
section
variable {K : PySem.W.Frag} {H0 H : Hp} {b c : Addr} {ns : List Int} {a_ d_ n_ f_ : Int}
theorem BG.at_ (B : BG K H0 H b c ns a_ d_ n_ f_) (z : Int) : BG K H0 (upd H b (.dK (putK (bagK c a_ d_ n_ f_) (.inr "at") (.int z)))) b c ns z d_ n_ f_ := ⟨by rw [upd_same, put_at], sq_upd B.q B.h, B.s.upd _⟩
theorem BG.dg (B : BG K H0 H b c ns a_ d_ n_ f_) (z : Int) : BG K H0 (upd H b (.dK (putK (bagK c a_ d_ n_ f_) (.inr "digits") (.int z)))) b c ns a_ z n_ f_ := ⟨by rw [upd_same, put_dg], sq_upd B.q B.h, B.s.upd _⟩
theorem BG.ct (B : BG K H0 H b c ns a_ d_ n_ f_) (z : Int) : BG K H0 (upd H b (.dK (putK (bagK c a_ d_ n_ f_) (.inr "count") (.int z)))) b c ns a_ d_ z f_ := ⟨by rw [upd_same, put_ct], sq_upd B.q B.h, B.s.upd _⟩
theorem BG.fo (B : BG K H0 H b c ns a_ d_ n_ f_) (z : Int) : BG K H0 (upd H b (.dK (putK (bagK c a_ d_ n_ f_) (.inr "fold") (.int z)))) b c ns a_ d_ n_ z := ⟨by rw [upd_same, put_fo], sq_upd B.q B.h, B.s.upd _⟩
theorem BG.gc (B : BG K H0 H b c ns a_ d_ n_ f_) : DGet H b (.str "cells") (some (.ref c)) := by have z := DGet.k (k := Sum.inr "cells") B.h; rw [bag_cells] at z; exact z
theorem BG.ga (B : BG K H0 H b c ns a_ d_ n_ f_) : DGet H b (.str "at") (some (.int a_)) := by have z := DGet.k (k := Sum.inr "at") B.h; rw [bag_at] at z; exact z
theorem BG.gd (B : BG K H0 H b c ns a_ d_ n_ f_) : DGet H b (.str "digits") (some (.int d_)) := by have z := DGet.k (k := Sum.inr "digits") B.h; rw [bag_dg] at z; exact z
theorem BG.gn (B : BG K H0 H b c ns a_ d_ n_ f_) : DGet H b (.str "count") (some (.int n_)) := by have z := DGet.k (k := Sum.inr "count") B.h; rw [bag_ct] at z; exact z
theorem BG.gf (B : BG K H0 H b c ns a_ d_ n_ f_) : DGet H b (.str "fold") (some (.int f_)) := by have z := DGet.k (k := Sum.inr "fold") B.h; rw [bag_fo] at z; exact z
theorem BG.out (B : BG K H0 H b c ns a_ d_ n_ f_) (hc : H0 c = some (.lst (ns.map V.int))) (nc : c ≠ b) (h1 : 0 ≤ a_) (h2 : 0 ≤ d_) (h3 : 0 ≤ f_) (h4 : f_ < 2147483587) : BagAt H b c ns n_ := ⟨a_, d_, f_, B.h, B.s _ _ nc hc, h1, h2, h3, h4⟩
end
structure BTxt (mg : Str → Option Value) : Prop where
  len : mg "len" = none
  int : mg "int" = none
  list : mg "list" = none
section
variable {P : Program} {w : World} {K : PySem.W.Frag} {mg : Str → Option Value} {base : Heap}
theorem scD : FnScope ["bag", "limit", "cell", "digit", "base"] ["bag", "limit"] (defScope sDraw) := ⟨rfl, rfl, rfl, by decide +kernel, rfl, by decide +kernel, by decide +kernel⟩
theorem ok_draw {f : Addr} {fd : FuncData} (F : Fun K "_law_draw" "_law_draw" sDraw f fd) (T : BTxt mg) : FnOk P w K mg base CX0 1 f fd ["bag", "limit"] spDraw := by
  refine F.ok scD (fun vs H Q E h => ?_) (fun cdv A outer s H vs Q E hr h => ?_)
  · obtain ⟨b, c, lim, ns, ct, rfl, _⟩ := h
    rfl
  · obtain ⟨b, c, lim, ns, ct, rfl, ⟨at_, dg, fo, hb, hc, h1, h2, h3, h4⟩, hct, hct2, hl, hl2, hns, k⟩ := h
    have nc : c ≠ b := ne_of hc hb (fun z => nomatch z)
    have hu := hu_of hr
    -- behind the first if
    obtain ⟨t2, p2, q2⟩ : ∃ t2, PSs (cxOf CX0 P w K mg base ["bag", "limit", "cell", "digit", "base"] "_law_draw" (defScope sDraw) f cdv A outer s H E).nox ((defBody sDraw).drop 2) t2 ∧
        ∀ (v2 : Option V) (H1 : Hp) (a1 d1 f1 : Int), BG K H H1 b c ns a1 d1 (ct + 1) f1 → 0 ≤ a1 → 0 ≤ d1 → 0 ≤ f1 → f1 < 2147483587 → t2 { nx := fun _ H' => Q .non H', rt := Q } [some (.ref b), some (.int lim), v2, none, none] H1 := by
      refine ⟨_, pss_cons (ps_if (pt_cmpR op_gt (pe_dget hu (pv 0) pe_str (fun _ _ => rfl)) pe_int (nomark _))
        (pss_cons (ps_set (i := 3) scD.nd rfl (Or.inl rfl) (pe_op op_mod (pe_callTy call_int1 (by rfl) T.int (by decide +kernel) (pa_cons (pe_dget hu (pv 0) pe_str (fun _ _ => rfl)) pa_nil)) (pv 1)))
        (pss_cons (ps_dput hu (pv 0) pe_str (pe_op op_fdivW (pe_dget hu (pv 0) pe_str (fun _ _ => rfl)) (pv 1)) rfl)
        (pss_one (ps_ret (pv 3))))) pss_nil)
      (pss_cons (ps_set (i := 4) scD.nd rfl (Or.inl rfl) (pe_op op_add (pe_op op_add (pe_dget hu (pv 0) pe_str (fun _ _ => rfl)) (pe_op op_mul (pe_dget hu (pv 0) pe_str (fun _ _ => rfl)) pe_int)) pe_int))
      (pss_one (ps_ret (pe_op op_mod (pe_op op_fdiv (pe_callTy call_int1 (by rfl) T.int (by decide +kernel) (pa_cons (pe_op op_mod (pe_op op_pow (pv 4) pe_int) pe_int) pa_nil)) pe_int) (pv 1))))), ?_⟩
      intro v2 H1 a1 d1 f1 B x1 x2 x3 x4
      have hlw : CDivW d1 lim := wide_div (b := 200) hl (by omega) (by decide) (by decide)
      refine ⟨_, rfl, b, _, rfl, B.gd, _, _, rfl, rfl, _, rfl, ite2 (fun c1 => ?_) (fun c1 => ?_)⟩
      · -- a digit
        refine ⟨_, rfl, b, _, rfl, B.gd, .inl ⟨_, rfl, _, rfl, _, _, rfl, rfl, hl, ?_⟩⟩
        refine ⟨_, rfl, b, _, rfl, B.gd, _, rfl, _, _, rfl, rfl, hlw, _, rfl, b, _, rfl, DPut.k (k := Sum.inr "digits") B.h small5, ?_⟩
        have B2 := B.dg (d1 / lim)
        refine ⟨_, rfl, ?_⟩
        exact k _ _ (Int.emod_nonneg _ (by omega)) (Int.emod_lt_of_pos _ hl) (B2.out hc nc x1 (Int.ediv_nonneg x2 (by omega)) x3 x4) B2.s
      · -- from the fold
        refine ⟨_, rfl, b, _, rfl, B.gf, _, rfl, b, _, rfl, B.gn, _, _, rfl, rfl, .inl ⟨by omega, by omega⟩, _, _, rfl, rfl, _, _, rfl, rfl, ?_⟩
        refine ⟨_, rfl, _, _, rfl, rfl, ⟨by decide, by decide, by omega⟩, _, _, rfl, rfl, (by show (0 : Int) < 2305843009213693951; decide), .inl ⟨_, rfl, _, _, rfl, rfl, ⟨by decide, by decide⟩, _, rfl, _, _, rfl, rfl, hl, ?_⟩⟩
        exact k _ _ (Int.emod_nonneg _ (by omega)) (Int.emod_lt_of_pos _ hl) (B.out hc nc x1 x2 x3 x4) B.s
    refine ⟨_, pss_cons (ps_dput hu (pv 0) pe_str (pe_op op_add (pe_dget hu (pv 0) pe_str (fun _ _ => rfl)) pe_int) rfl)
      (pss_cons (ps_if (PW.pt (pw_and (pt_cmpR op_eq (pe_dget hu (pv 0) pe_str (fun _ _ => rfl)) pe_int (nomark _))
          (pw_and1 (pt_cmpR op_lt (pe_dget hu (pv 0) pe_str (fun _ _ => rfl)) (pe_callB call_len_seq (by rfl) T.len PySem.boot_len (pa_cons (pe_dget hu (pv 0) pe_str (fun _ _ => rfl)) pa_nil)) (nomark _)))))
        (pss_cons (ps_set (i := 2) scD.nd rfl (Or.inl rfl) (pe_ix ix_list (pe_dget hu (pv 0) pe_str (fun _ _ => rfl)) (pe_dget hu (pv 0) pe_str (fun _ _ => rfl)) (fun _ _ => rfl)))
        (pss_cons (ps_dput hu (pv 0) pe_str (pe_op op_add (pe_dget hu (pv 0) pe_str (fun _ _ => rfl)) pe_int) rfl)
        (pss_one (ps_if (pt_cmpR op_ge (pv 2) (pe_op op_pow pe_int pe_int) (nomark _))
          (pss_one (ps_dput hu (pv 0) pe_str (pe_op op_sub (pv 2) (pe_op op_pow pe_int pe_int)) rfl))
          (pss_one (ps_dput hu (pv 0) pe_str (pe_op op_mod (pe_callTy call_int1 (by rfl) T.int (by decide +kernel) (pa_cons (pe_op op_add (pe_op op_mul (pe_dget hu (pv 0) pe_str (fun _ _ => rfl)) pe_int) (pv 2)) pa_nil)) pe_int) rfl))))))
        pss_nil) p2), ?_⟩
    have B0 : BG K H H b c ns at_ dg ct fo := ⟨hb, SqL.of hc, SameBut.refl _ _⟩
    -- bag['count'] = bag['count'] + 1
    refine ⟨_, rfl, b, _, rfl, B0.gn, _, _, rfl, rfl, _, rfl, b, _, rfl, DPut.k (k := Sum.inr "count") B0.h small5, ?_⟩
    have B1 := B0.ct (ct + 1)
    refine ⟨_, rfl, b, _, rfl, B1.gd, rfl, _, rfl, ?_⟩
    refine ite2 (fun c1 => ?_) (fun c1 => ?_)
    · refine ⟨_, rfl, b, _, rfl, B1.ga, _, rfl, b, _, rfl, B1.gc, c, _, rfl, .inl B1.q, _, _, rfl, rfl, _, rfl, ?_⟩
      refine ite2 (fun c2 => ?_) (fun c2 => ?_)
      · have hlt : at_ < (ns.map V.int).length := of_decide_eq_true c2
        rw [List.length_map] at hlt
        obtain ⟨j, ej⟩ : ∃ j : Nat, at_ = (j : Int) := ⟨at_.toNat, by omega⟩
        have hj : j < ns.length := by omega
        have hget : (ns.map V.int)[j]? = some (V.int ns[j]) := by rw [List.getElem?_map, List.getElem?_eq_getElem hj]; rfl
        refine ⟨_, rfl, b, _, rfl, B1.gc, _, rfl, b, _, rfl, B1.ga, c, _, _, _, rfl, rfl, B1.q, by rw [ej]; exact atI_nat hget, ?_⟩
        refine ⟨_, rfl, b, _, rfl, B1.ga, _, _, rfl, rfl, _, rfl, b, _, rfl, DPut.k (k := Sum.inr "at") B1.h small5, ?_⟩
        have B2 := B1.at_ (at_ + 1)
        refine ⟨_, rfl, _, _, rfl, rfl, ⟨by decide, by decide, by decide⟩, _, _, rfl, rfl, _, rfl, ite2 (fun c3 => ?_) (fun c3 => ?_)⟩
        · have hge : (10 : Int) ^ (18 : Int).toNat ≤ ns[j] := of_decide_eq_true c3
          refine ⟨_, rfl, _, _, rfl, rfl, ⟨by decide, by decide, by decide⟩, _, _, rfl, rfl, _, rfl, b, _, rfl, DPut.k (k := Sum.inr "digits") B2.h small5, ?_⟩
          exact q2 _ _ _ _ _ (B2.dg (ns[j] - 10 ^ (18 : Int).toNat)) (by omega) (by omega) h3 h4
        · refine ⟨_, rfl, b, _, rfl, B2.gf, _, _, rfl, rfl, .inl ⟨by omega, by omega⟩, _, rfl, _, _, rfl, rfl, .inl ⟨_, rfl, _, _, rfl, rfl, (by show (0 : Int) < 2147483587; decide), ?_⟩⟩
          refine ⟨_, rfl, b, _, rfl, DPut.k (k := Sum.inr "fold") B2.h small5, ?_⟩
          exact q2 _ _ _ _ _ (B2.fo _) (by omega) h2 (Int.emod_nonneg _ (by decide)) (Int.emod_lt_of_pos _ (by decide))
      · exact q2 _ _ _ _ _ B1 h1 h2 h3 h4
    · refine iteF ?_
      exact q2 _ _ _ _ _ B1 h1 h2 h3 h4
end
end K40

namespace L2
open PySem PySem.Spec PyProof.Rows
/-- lists and tuples, as they stand or looked at -/
def SeqO (o : HO) : Prop := (∃ xs, o = .lst xs) ∨ (∃ xs, o = .tup xs) ∨ ∃ u v, o = .frz u v
/-- lists and tuples stand as before -/
def ExtD (H H' : Hp) : Prop := ∀ q o, SeqO o → H q = some o → H' q = some o
theorem ExtD.refl (H : Hp) : ExtD H H := fun _ _ _ h => h
theorem ExtD.trans {H H1 H2 : Hp} (x : ExtD H H1) (y : ExtD H1 H2) : ExtD H H2 := fun q o s h => y q o s (x q o s h)
theorem ExtD.of {H H' : Hp} (s : Same H H') : ExtD H H' := fun q o _ h => s q o h
theorem ExtD.ofN {H H' : Hp} (s : LamX.ExtN H H') : ExtD H H' := fun q o so h => s q o h fun ps e => by
  rcases so with ⟨_, z⟩ | ⟨_, z⟩ | ⟨_, _, z⟩ <;> rw [z] at e <;> cases e
theorem ExtD.del {H H' : Hp} {p : Addr} (s : ExtD H H') : ExtD (L2.del H p) (L2.del H' p) := fun b o so h => by
  by_cases e : b = p
  · rw [e, del_same] at h; cases h
  · rw [del_ne e] at h ⊢; exact s b o so h
theorem ExtD.todel {H H' : Hp} {p : Addr} (s : ExtD H H') (hp : ∀ o, SeqO o → H p ≠ some o) : ExtD H (L2.del H' p) := fun b o so h => by
  by_cases e : b = p
  · rw [e] at h; exact absurd h (hp o so)
  · rw [del_ne e]; exact s b o so h
theorem ExtD.sqL {K : PySem.W.Frag} {H H' : Hp} (s : ExtD H H') {a : Addr} {xs : List V} (q : SqL K H a xs) : SqL K H' a xs := by
  rcases q with (q | ⟨o, q⟩) | q
  · exact .inl (.inl (s _ _ (.inl ⟨_, rfl⟩) q))
  · exact .inl (.inr ⟨o, s _ _ (.inr (.inr ⟨_, _, rfl⟩)) q⟩)
  · exact .inr q
theorem ExtD.sqT {K : PySem.W.Frag} {H H' : Hp} (s : ExtD H H') {a : Addr} {xs : List V} (q : SqT K H a xs) : SqT K H' a xs := by
  rcases q with (q | ⟨o, q⟩) | q
  · exact .inl (.inl (s _ _ (.inr (.inl ⟨_, rfl⟩)) q))
  · exact .inl (.inr ⟨o, s _ _ (.inr (.inr ⟨_, _, rfl⟩)) q⟩)
  · exact .inr q
theorem Dp.keepD {K : PySem.W.Frag} {H H' : Hp} (s : ExtD H H') : ∀ {d : PyData} {v : V}, Dp K H v d → Dp K H' v d := by
  intro d v h
  induction h using Dp.rec (motive_2 := fun vs ds _ => DpAll K H' vs ds) with
  | non => exact .non
  | bl b => exact .bl b
  | int i => exact .int i
  | str x => exact .str x
  | lst q _ ih => exact .lst (s.sqL q) ih
  | tup q _ ih => exact .tup (s.sqT q) ih
  | nil => exact .nil
  | cons _ _ ih1 ih2 => exact .cons ih1 ih2
theorem DpAll.keepD {K : PySem.W.Frag} {H H' : Hp} (s : ExtD H H') : ∀ {vs : List V} {ds : List PyData}, DpAll K H vs ds → DpAll K H' vs ds
  | _, _, .nil => .nil
  | _, _, .cons h t => .cons (h.keepD s) (DpAll.keepD s t)
end L2
namespace K40
open PySem PySem.Spec PyProof.Rows L2 Rg PySem.RingX
theorem BagAt.ext {H H' : Hp} {b c : Addr} {ns : List Int} {ct : Int} (B : BagAt H b c ns ct) (s : SameBut b H H') : ExtD H H' := fun q o so h => by
  obtain ⟨kvs, hb⟩ := B.dk
  refine s q o (fun e => ?_) h
  rw [e, hb] at h
  rcases so with ⟨_, z⟩ | ⟨_, z⟩ | ⟨_, _, z⟩ <;> rw [z] at h <;> cases h
theorem BagAt.keepN {H H' : Hp} {b c : Addr} {ns : List Int} {ct : Int} (B : BagAt H b c ns ct) (s : LamX.ExtN H H') : BagAt H' b c ns ct := by
  obtain ⟨at_, dg, fo, h1, h2, h3⟩ := B.ex
  exact ⟨at_, dg, fo, s _ _ h1 (fun ps z => nomatch z), s _ _ h2 (fun ps z => nomatch z), h3⟩
theorem BagAt.tabs {H H' : Hp} {b c : Addr} {ns : List Int} {ct : Int} {T : List (Addr × Str)} (B : BagAt H b c ns ct) (s : SameBut b H H') (t : LamX.Tabs T H) : LamX.Tabs T H' := fun p hp => by
  obtain ⟨kvs, hb⟩ := B.dk
  obtain ⟨ps, h1, h2, h3⟩ := t p hp
  refine ⟨ps, s _ _ (fun e => by rw [e, hb] at h1; cases h1) h1, h2, fun pos cv hc => ?_⟩
  obtain ⟨c, e1, e2⟩ := h3 pos cv hc
  refine ⟨c, e1, s _ _ (fun e => ?_) e2⟩
  rw [e, hb] at e2
  unfold LamX.CodeO at e2
  cases e2
theorem sq_new {K : PySem.W.Frag} {H : Hp} {a p : Addr} {xs : List V} {o : HO} (h : SqL K H a xs) (hp : H p = none) : SqL K (upd H p o) a xs := (same_upd hp).seq h
section
variable {P : Program} {w : World} {K : PySem.W.Frag} {mg : Str → Option Value} {base : Heap}
theorem scB : FnScope ["script", "fold", "cell"] ["script"] (defScope sBag) := ⟨rfl, rfl, rfl, by decide +kernel, rfl, by decide +kernel, by decide +kernel⟩
theorem ok_bag {f : Addr} {fd : FuncData} (F : Fun K "_law_bag" "_law_bag" sBag f fd) (T : BTxt mg) : FnOk P w K mg base CX0 1 f fd ["script"] (spBag K) := by
  refine F.ok scB (fun vs H Q E h => ?_) (fun cdv A outer s H vs Q E hr h => ?_)
  · obtain ⟨a, ns, rfl, _⟩ := h
    rfl
  · obtain ⟨a, ns, rfl, hS, hns, k⟩ := h
    have hu := hu_of hr
    refine ⟨_, pss_cons (ps_set (i := 1) scB.nd rfl (Or.inl rfl) pe_int)
      (pss_cons (ps_for PassesOwn.never rfl (pi_list (pv 0)) (pg_name (i := 2) scB.nd rfl (Or.inl rfl))
        (pss_one (ps_set (i := 1) scB.nd rfl (Or.inl rfl) (pe_op op_mod (pe_callTy call_int1 (by rfl) T.int (by decide +kernel) (pa_cons (pe_op op_add (pe_op op_mul (pv 1) pe_int) (pv 2)) pa_nil)) pe_int))))
      (pss_one (ps_ret (pe_disp (pps_cons pe_str (pe_callTy call_list_of (by rfl) T.list (by decide +kernel) (pa_cons (pv 0) pa_nil)) (pps_cons pe_str pe_int (pps_cons pe_str pe_int (pps_cons pe_str pe_int (pps_cons pe_str (pv 1) pps_nil))))) (by rfl) (by rfl) (fun z => by cases z) (by decide))))), ?_⟩
    refine ⟨_, rfl, a, rfl, ⟨_, hS⟩, for_list (K := K) (a := a) (xs := ns.map V.int) (fun i σ H' => ∃ (fo : Int) (v : Option V), σ = [some (.ref a), some (.int fo), v] ∧ H' = H ∧ 0 ≤ fo ∧ fo < 1000000009)
      ⟨0, none, rfl, rfl, by decide, by decide⟩ (fun i σ H' _ ⟨_, _, _, e, _⟩ => by rw [e]; exact hS) ?_ ?_⟩
    · rintro i y σ H' hi ⟨fo, v, rfl, rfl, h1, h2⟩
      obtain ⟨z, rfl⟩ : ∃ z, y = V.int z := by
        rw [List.getElem?_map] at hi
        cases e : ns[i]? with
        | none => rw [e] at hi; cases hi
        | some z => rw [e] at hi; exact ⟨z, (Option.some.inj hi).symm⟩
      refine ⟨_, rfl, _, _, rfl, rfl, .inl ⟨by omega, by omega⟩, _, rfl, _, _, rfl, rfl, .inl ⟨_, rfl, _, _, rfl, rfl, (by show (0 : Int) < 1000000009; decide), ?_⟩⟩
      exact ⟨_, _, rfl, rfl, Int.emod_nonneg _ (by decide), Int.emod_lt_of_pos _ (by decide)⟩
    · rintro σ H' ⟨fo, v, rfl, rfl, h1, h2⟩
      intro p hp
      refine ⟨_, rfl, a, _, rfl, .inl (sq_new hS hp), fun l hl => ⟨_, rfl, ?_⟩⟩
      have lp : l ≠ p := fun z => by rw [z, upd_same] at hl; cases hl
      refine ⟨by rw [upd_ne lp.symm, upd_same], bagK l 0 0 0 fo, rfl, (by show 5 ≤ 15; decide), ?_⟩
      rw [bag_mk]
      refine k p l _ hp ⟨0, 0, fo, upd_same, ?_, by decide, by decide, h1, by omega⟩ ?_
      · rw [upd_ne lp, upd_same]
      · intro q o hq
        rw [upd_ne (ne_of_none hq hp), upd_ne (ne_of_none (by rw [upd_ne (ne_of_none hq hp)]; exact hq) hl), upd_ne (ne_of_none hq hp)]
        exact hq

end
end K40

namespace K40
open PySem PySem.Spec PyProof.Rows L2 Rg PySem.RingX
abbrev sLItems : Stmt := top 32
/-- a draw, as the law's defs call it -/
abbrev DDraw (P : Program) (w : World) (K : PySem.W.Frag) (mg : Str → Option Value) (base : Heap) : Prop := Def P w K mg base CX0 "_law_draw" 1 ["bag", "limit"] spDraw
theorem keys_more {its : List D} {d : D} (h : keysDiffer its = true) (hk : ∀ e ∈ its, keyD e ≠ keyD d) : keysDiffer (its ++ [d]) = true := by
  unfold keysDiffer at *
  have nd := of_decide_eq_true h
  refine decide_eq_true ?_
  rw [List.map_append]
  refine List.nodup_append.mpr ⟨nd, by simp, fun a ha c hc => ?_⟩
  obtain ⟨e, he, rfl⟩ := List.mem_map.mp ha
  rw [show c = keyD d by simpa using hc]
  exact hk e he
theorem itemsL_snoc {its : List D} {d : D} (h : itemsL its = true) (hd : itemD d = true) (hk : ∀ e ∈ its, keyD e ≠ keyD d) : itemsL (its ++ [d]) = true := by
  unfold itemsL at *
  obtain ⟨h1, h2⟩ := Bool.and_eq_true_iff.mp h
  refine Bool.and_eq_true_iff.mpr ⟨?_, keys_more h2 hk⟩
  rw [List.all_append, h1]
  simp [hd]
theorem SameBut.updl {b D : Addr} {H H' : Hp} {o : HO} (s : SameBut b H H') (hD : H D = none) : SameBut b H (L2.upd H' D o) := fun q u hq h => by
  rw [upd_ne (ne_of_none h hD)]
  exact s q u hq h
/-- an item whose numbers lie within bounds -/
def Bnd (lo hi hs : Int) (d : D) : Prop := ∃ k x m, d = .tuple [.int k, .int x, .int m] ∧ lo ≤ k ∧ k ≤ hi ∧ 0 ≤ x ∧ x < hs ∧ 0 ≤ m ∧ m < 9
section
variable {P : Program} {w : World} {K : PySem.W.Frag} {mg : Str → Option Value} {base : Heap}
def spLItems (K : PySem.W.Frag) : Sp := fun vs H Q _ => ∃ (b c : Addr) (m : Nat) (hs first : Int) (ns : List Int) (ct : Int), vs = [.ref b, .int (m : Nat), .int hs, .int first] ∧ BagAt H b c ns ct ∧ 0 ≤ ct ∧ ct < 900000 ∧ m ≤ 100 ∧ 0 < hs ∧ hs < 2 ^ 200 ∧ ns.length < 1000 ∧
  ∀ (p : Addr) (ys : List V) (its : List D) (H' : Hp), H p = none → H' p = some (.lst ys) → DpAll K H' ys its → its.length = m → itemsL its = true → (∀ d ∈ its, Bnd (first - 2) (first + 3 * m) hs d) → BagAt H' b c ns (ct + 3 * m) → SameBut b H H' → Q (.ref p) H'
theorem scLItems : FnScope ["bag", "many", "hashes", "first", "k"] ["bag", "many", "hashes", "first"] (defScope sLItems) := ⟨rfl, rfl, rfl, by decide +kernel, rfl, by decide +kernel, by decide +kernel⟩
theorem ok_litems (R : Raw K mg "_law_items" sLItems ["bag", "many", "hashes", "first"]) (T : GT mg) (DD : DDraw P w K mg base) : Def P w K mg base CX0 "_law_items" 2 ["bag", "many", "hashes", "first"] (spLItems K) := by
  obtain ⟨fD, dD, GD, gD, kD, bD⟩ := DD
  refine R.def fun f fd F => F.ok scLItems (fun vs H Q E h => ?_) (fun cdv A outer s H vs Q E hr h => ?_)
  · obtain ⟨b, c, m, hs, first, ns, ct, rfl, _⟩ := h
    rfl
  · obtain ⟨b, c, m, hs, first, ns, ct, rfl, B, hct, hct2, hm, hh, hh2, hns, k⟩ := h
    refine ⟨_, pss_one (ps_ret (pe_lc (own := [("k", 4)]) (g := gName 4) (tt := tYes)
        (te := tTup (tCons (tOp (rI0 fun i j => .int (i - j)) (tOp (rI0 fun i j => .int (i + j)) (tVar 3) (tOp (rI CMul fun i j => .int (i * j)) (tC (.int 3)) (tVar 4))) (tCall spDraw [] E (tCons (tVar 0) (tCons (tC (.int 3)) tNil))))
          (tCons (tCall spDraw [] E (tCons (tVar 0) (tCons (tVar 2) tNil))) (tCons (tCall spDraw [] E (tCons (tVar 0) (tCons (tC (.int 9)) tNil))) tNil))))
        rfl scLItems.nd (pi_range1 (by rfl) T.range (pa_cons (pv 1) pa_nil)) (blkOk_by (own := [("k", 4)]) (N := ["bag", "many", "hashes", "first", "k"]) (sc := defScope sLItems) (by decide +kernel))
        (fun _ _ _ _ _ => pg_name (i := 4) scLItems.nd rfl (Or.inl rfl)) (fun _ _ _ _ _ => pts_nil)
        (fun _ _ _ _ _ => pe_tup (pa_cons (pe_op op_sub (pe_op op_add (pv 3) (pe_op op_mul pe_int (pv 4))) (pe_call GD hr (by rfl) gD kD bD .nil pass0 (pa_cons (pv 0) (pa_cons pe_int pa_nil))))
          (pa_cons (pe_call GD hr (by rfl) gD kD bD .nil pass0 (pa_cons (pv 0) (pa_cons (pv 2) pa_nil))) (pa_cons (pe_call GD hr (by rfl) gD kD bD .nil pass0 (pa_cons (pv 0) (pa_cons pe_int pa_nil))) pa_nil)))))), ?_⟩
    obtain ⟨kvs, hbd⟩ := B.dk
    refine ⟨_, rfl, (m : Int), rfl, by omega, by omega, fun D hD => lc_range (n := m) (fun i H' => BagAt H' b c ns (ct + 3 * i) ∧ SameBut b H H' ∧ ∃ ys its, H' D = some (.lst ys) ∧ DpAll K (del H' D) ys its ∧ its.length = i ∧ itemsL its = true ∧ (∀ d ∈ its, keyD d < first + 3 * i - 2) ∧ ∀ d ∈ its, Bnd (first - 2) (first + 3 * m) hs d) ⟨?_, ?_, [], [], upd_same, .nil, rfl, by decide, (fun d hd => nomatch hd), (fun d hd => nomatch hd)⟩ ?_ ?_⟩
    · have := B.keep (same_upd (o := .lst []) hD)
      simpa using this
    · exact SameBut.of (same_upd hD)
    · rintro i H1 hi ⟨B1, s1, ys, its, hy, dy, hil, hits, hkeys, hbnd⟩
      have nDb : D ≠ b := fun e => by rw [e, hbd] at hD; cases hD
      have bnd : ct + 3 * (i : Int) < 999000 := by omega
      refine ⟨rfl, _, rfl, _, rfl, _, _, rfl, rfl, .inl ⟨by decide, by decide⟩, _, _, rfl, rfl, _, rfl, b, c, 3, ns, _, rfl, B1, by omega, by omega, by decide, by decide, hns, fun r1 H2 hr1 hr1' B2 s2 => ?_⟩
      refine ⟨_, _, rfl, rfl, _, rfl, _, rfl, b, c, hs, ns, _, rfl, B2, by omega, by omega, hh, hh2, hns, fun r2 H3 hr2 hr2' B3 s3 => ?_⟩
      refine ⟨_, rfl, b, c, 9, ns, _, rfl, B3, by omega, by omega, by decide, by decide, hns, fun r3 H4 hr3 hr3' B4 s4 => ?_⟩
      refine ⟨(by show 3 ≤ sizeLine; decide), fun t ht => ?_⟩
      have s14 : SameBut b H1 H4 := (s2.trans s3).trans s4
      have e14 : ExtD H1 H4 := B1.ext s14
      have hy4 : H4 D = some (.lst ys) := e14 D _ (.inl ⟨_, rfl⟩) hy
      have nt : D ≠ t := ne_of_none hy4 ht
      have ntb : b ≠ t := by obtain ⟨kv, hb4⟩ := B4.dk; exact ne_of_none hb4 ht
      have ylen := dy.length
      refine ⟨ys, (upd_ne nt).trans hy4, by rw [sizeLine_eq]; omega, ?_, ?_, _, its ++ [.tuple [.int (first + 3 * (0 + (i : Int)) - r1), .int r2, .int r3]], upd_same, ?_, by rw [List.length_append, hil]; rfl, itemsL_snoc hits (show itemD (.tuple [.int _, .int r2, .int r3]) = true from decide_eq_true hr2) ?_, ?_, ?_⟩
      · have B5 := (B4.keep (same_upd (o := .tup [V.int (first + 3 * (0 + (i : Int)) - r1), V.int r2, V.int r3]) ht)).updl (o := .lst (ys ++ [V.ref t])) (B.off hD).1 (B.off hD).2
        rw [show ct + 3 * ((i + 1 : Nat) : Int) = ct + 3 * i + 1 + 1 + 1 by omega]
        exact B5
      · exact (s1.trans (s14.trans (SameBut.of (same_upd ht)))).updl hD
      · rw [del_upd]
        refine DpAll.snoc (DpAll.keepD ((e14.del).trans (ExtD.of (del_new hy4 ht))) dy) ?_
        exact .tup (SqT.of ((del_ne nt.symm).trans upd_same)) (.cons (.int _) (.cons (.int _) (.cons (.int _) .nil)))
      · intro e he z
        have := hkeys e he
        rw [z] at this
        change first + 3 * (0 + (i : Int)) - r1 < _ at this
        omega
      · intro d hd
        rcases List.mem_append.mp hd with z | z
        · have := hkeys d z
          omega
        · rw [List.mem_singleton.mp z]
          show first + 3 * (0 + (i : Int)) - r1 < first + 3 * ((i + 1 : Nat) : Int) - 2
          omega
      · intro d hd
        rcases List.mem_append.mp hd with z | z
        · exact hbnd d z
        · rw [List.mem_singleton.mp z]
          exact ⟨_, _, _, rfl, by omega, by omega, hr2, hr2', hr3, hr3'⟩
    · rintro H1 ⟨B1, s1, ys, its, hy, dy, hil, hits, hkeys, hbnd⟩
      exact k D ys its H1 hD hy (DpAll.keep same_del dy) hil hits hbnd B1 s1
end
end K40

namespace K40
open PySem PySem.Spec PyProof.Rows L2 Rg PySem.RingX
abbrev sDrawn : Stmt := top 33
theorem cut_lo {xs : List V} {t : Nat} (h : t ≤ xs.length) : cutV xs (some (t : Int)) none = xs.drop t := by
  unfold cutV
  rw [HT.sIx_nat, HT.sIx_none, Nat.min_eq_left h, List.take_of_length_le (by rw [List.length_drop]; exact Nat.le_refl _)]
theorem cut_hi {xs : List V} {t : Nat} (h : t ≤ xs.length) : cutV xs none (some (t : Int)) = xs.take t := by
  unfold cutV
  rw [HT.sIx_nat, HT.sIx_none, Nat.min_eq_left h, List.drop_zero, Nat.sub_zero]
theorem keys_perm {a b : List D} (p : a.Perm b) : keysDiffer a = keysDiffer b := by
  unfold keysDiffer
  exact decide_eq_decide.mpr (p.map keyD).nodup_iff
theorem keys_sub {a b : List D} (p : a.Sublist b) (h : keysDiffer b = true) : keysDiffer a = true := by
  unfold keysDiffer at *
  exact decide_eq_true ((of_decide_eq_true h).sublist (p.map keyD))
theorem ringL_perm {a b : List D} (p : a.Perm b) : ringL a = ringL b := by
  unfold ringL
  rw [p.all_eq, p.any_eq, keys_perm (p.filter isT)]
theorem rot_perm {α : Type} (l : List α) (t : Nat) : (l.drop t ++ l.take t).Perm l := by
  refine List.perm_append_comm.trans ?_
  rw [List.take_append_drop]
theorem ring_of {rows its : List D} (h1 : rows.all rowD = true) (h2 : (rows.filter isT).Sublist its) (h3 : itemsL its = true) (t : Nat) : ringL ((.none :: rows).drop t ++ (.none :: rows).take t) = true := by
  rw [ringL_perm (rot_perm _ t)]
  unfold ringL
  unfold itemsL at h3
  refine Bool.and_eq_true_iff.mpr ⟨?_, Bool.and_eq_true_iff.mpr ⟨rfl, ?_⟩⟩
  · rw [List.all_cons, h1]; rfl
  · rw [List.filter_cons_of_neg (by decide)]
    exact keys_sub h2 (Bool.and_eq_true_iff.mp h3).2
theorem DpAll.drop {K : PySem.W.Frag} {H : Hp} : ∀ {vs : List V} {ds : List PyData} (i : Nat), DpAll K H vs ds → DpAll K H (vs.drop i) (ds.drop i)
  | _, _, 0, h => h
  | _, _, _ + 1, .nil => .nil
  | _, _, i + 1, .cons _ t => DpAll.drop i t
theorem DpAll.take {K : PySem.W.Frag} {H : Hp} : ∀ {vs : List V} {ds : List PyData} (i : Nat), DpAll K H vs ds → DpAll K H (vs.take i) (ds.take i)
  | _, _, 0, _ => .nil
  | _, _, _ + 1, .nil => .nil
  | _, _, i + 1, .cons h t => .cons h (DpAll.take i t)
theorem DpAll.append {K : PySem.W.Frag} {H : Hp} : ∀ {vs us : List V} {ds es : List PyData}, DpAll K H vs ds → DpAll K H us es → DpAll K H (vs ++ us) (ds ++ es)
  | _, _, _, _, .nil, h => h
  | _, _, _, _, .cons x t, h => .cons x (DpAll.append t h)
structure GT2 (mg : Str → Option Value) : Prop where
  min : mg "min" = none
  list : mg "list" = none
  repr : mg "repr" = none
  sorted : mg "sorted" = none
section
variable {P : Program} {w : World} {K : PySem.W.Frag} {mg : Str → Option Value} {base : Heap}
def spDrawn (K : PySem.W.Frag) : Sp := fun vs H Q _ => ∃ (b c : Addr) (x : Str) (hs : Int) (ns : List Int) (ct : Int), vs = [.ref b, .str x, .int hs] ∧ BagAt H b c ns ct ∧ 0 ≤ ct ∧ ct < 800000 ∧ 0 < hs ∧ hs < 2 ^ 200 ∧ ns.length < 1000 ∧
  ∀ (v : V) (ds : List D) (ct' : Int) (H' : Hp), Dp K H' v (.tuple ds) → ringL ds = true → ds.length ≤ 12 → BagAt H' b c ns ct' → ct ≤ ct' → ct' ≤ ct + 200 → SameBut b H H' → Q v H'
theorem scDrawn : FnScope ["bag", "way", "hashes", "many", "items", "turn", "near", "k", "key", "far", "mark", "place", "rows", "item"] ["bag", "way", "hashes"] (defScope sDrawn) := ⟨rfl, rfl, rfl, by decide +kernel, rfl, by decide +kernel, by decide +kernel⟩
theorem ok_drawn (R : Raw K mg "_law_drawn" sDrawn ["bag", "way", "hashes"]) (T : GT mg) (T2 : GT2 mg) (DD : DDraw P w K mg base) (DI : Def P w K mg base CX0 "_law_items" 2 ["bag", "many", "hashes", "first"] (spLItems K)) : Def P w K mg base CX0 "_law_drawn" 3 ["bag", "way", "hashes"] (spDrawn K) := by
  obtain ⟨fD, dD, GD, gD, kD, bD⟩ := DD
  obtain ⟨fI, dI, GI, gI, kI, bI⟩ := DI
  refine R.def fun f fd F => F.ok scDrawn (fun vs H Q E h => ?_) (fun cdv A outer s H vs Q E hr h => ?_)
  · obtain ⟨b, c, x, hs, ns, ct, rfl, _⟩ := h
    rfl
  · obtain ⟨b, c, x, hs, ns, ct, rfl, B, hct, hct2, hh, hh2, hns, k⟩ := h
    have hr1 : Room 1 _ := hr.mono (by decide)
    -- behind the if
    obtain ⟨t2, p2, q2⟩ : ∃ t2, PSs (cxOf CX0 P w K mg base ["bag", "way", "hashes", "many", "items", "turn", "near", "k", "key", "far", "mark", "place", "rows", "item"] "_law_drawn" (defScope sDrawn) f cdv A outer s H E).nox ((defBody sDrawn).drop 4) t2 ∧
        ∀ (xm x6 x7 x8 x9 xa xb xc xd : Option V) (p : Addr) (its : List D) (t : Nat) (ct' : Int) (H1 : Hp), Dp K H1 (.ref p) (.list its) → itemsL its = true → its.length ≤ 11 → t ≤ its.length → BagAt H1 b c ns ct' → ct ≤ ct' → ct' ≤ ct + 100 → SameBut b H H1 →
          t2 { nx := fun _ H' => Q .non H', rt := Q } [some (.ref b), some (.str x), some (.int hs), xm, some (.ref p), some (.int (t : Nat)), x6, x7, x8, x9, xa, xb, xc, xd] H1 := by
      refine ⟨_, pss_cons (ps_setLc (i := 12) (own := [("item", 13)]) (g := gName 13) (tt := tYes) (te := tOp (rIxL K) (tLst (tCons (tVar 13) (tCons (tC .non) (tCons (tIf (tTest (tOp (fun x y H Q => scal x y = true ∧ Q (.bl (decide (x = y))) H) (tVar 1) (tC (.str "stones")))) (tC (.str "stone")) (tVar 13)) (tCons (tVar 13) tNil))))) (tCall spDraw [] E (tCons (tVar 0) (tCons (tC (.int 4)) tNil))))
            rfl scDrawn.nd rfl rfl (sw_true rfl rfl rfl (by decide +kernel)) (pi_list (pv 4)) (blkOk_by (own := [("item", 13)]) (N := ["bag", "way", "hashes", "many", "items", "turn", "near", "k", "key", "far", "mark", "place", "rows", "item"]) (sc := defScope sDrawn) (by decide +kernel))
            (fun _ _ _ _ _ => pg_name (i := 13) scDrawn.nd rfl (Or.inl rfl)) (fun _ _ _ _ _ => pts_nil)
            (fun _ _ _ _ _ => pe_ix (show IxR _ (rIxL K) from ix_list) (pe_lst (pa_cons (pv 13) (pa_cons pe_non (pa_cons (pe_ifExp (pt_cmpR op_eq (pv 1) pe_str (nomark _)) pe_str (pv 13)) (pa_cons (pv 13) pa_nil))))) (pe_call GD hr1 (by rfl) gD kD bD .nil pass0 (pa_cons (pv 0) (pa_cons pe_int pa_nil))) (fun _ _ => rfl)))
        (pss_one (ps_ret (pe_tupleOf (by rfl) T.tup (pe_op op_cat (pe_slice sl_list (pe_op op_cat (pe_lst (pa_cons pe_non pa_nil)) (pv 12)) (po_some (pv 5)) po_none) (pe_slice sl_list (pe_op op_cat (pe_lst (pa_cons pe_non pa_nil)) (pv 12)) po_none (po_some (pv 5))))))), ?_⟩
      intro xm x6 x7 x8 x9 xa xb xc xd p its t ct' H1 hp hits hl ht B1 h1 h2 s1
      obtain ⟨xs, sq, dp⟩ : ∃ xs, SqL K H1 p xs ∧ DpAll K H1 xs its := by
        cases hp with
        | lst q r => exact ⟨_, q, r⟩
      have hxl := dp.length
      refine ⟨_, rfl, p, rfl, ⟨_, sq⟩, fun L hL => lc_list (K := K) (a := p) (xs := xs) (fun i H' => BagAt H' b c ns (ct' + i) ∧ SameBut b H1 H' ∧ ∃ ys rs, H' L = some (.lst ys) ∧ DpAll K (del H' L) ys rs ∧ rs.length = i ∧ rs.all rowD = true ∧ (rs.filter isT).Sublist (its.take i)) ⟨?_, ?_, [], [], upd_same, .nil, rfl, rfl, ?_⟩ (fun i H' _ h => (B1.ext h.2.1).sqL sq) ?_ ?_⟩
      · have := B1.keep (same_upd (o := .lst []) hL)
        simpa using this
      · exact SameBut.of (same_upd hL)
      · exact List.nil_sublist _
      · rintro i y H2 hy ⟨B2, s2, ys, rs, hys, dys, hrl, hrows, hsub⟩
        obtain ⟨d, hd, dy⟩ := dp_at dp hy
        have hil : i < its.length := (List.getElem?_eq_some_iff.mp hd).1
        have hitd : itemD d = true := by
          unfold itemsL at hits
          exact List.all_eq_true.mp (Bool.and_eq_true_iff.mp hits).1 d (List.mem_of_getElem? hd)
        have ylen := dys.length
        -- the list of four, and what is drawn of it
        have fin : ∀ (vz : V) (dz : D) (l4 : Addr) (r : Int) (H3 : Hp), ((vz = .str "stone" ∧ dz = .str "stone") ∨ (vz = y ∧ dz = d)) → H2 l4 = none → 0 ≤ r → r < 4 → SameBut b (upd H2 l4 (.lst [y, .non, vz, y])) H3 → BagAt H3 b c ns (ct' + i + 1) →
            ∃ v, atI [y, .non, vz, y] r = some v ∧ ∃ acc, H3 L = some (.lst acc) ∧ acc.length < sizeLine ∧ (BagAt (upd H3 L (.lst (acc ++ [v]))) b c ns (ct' + (i + 1 : Nat)) ∧ SameBut b H1 (upd H3 L (.lst (acc ++ [v]))) ∧ ∃ ys rs, (upd H3 L (.lst (acc ++ [v]))) L = some (.lst ys) ∧ DpAll K (del (upd H3 L (.lst (acc ++ [v]))) L) ys rs ∧ rs.length = i + 1 ∧ rs.all rowD = true ∧ (rs.filter isT).Sublist (its.take (i + 1))) := by
          intro vz dz l4 r H3 hz hl4 hr0 hr4 s3 B3
          have sn := same_upd (o := .lst [y, .non, vz, y]) hl4
          have B2' : BagAt (upd H2 l4 (.lst [y, .non, vz, y])) b c ns (ct' + i) := B2.keep sn
          have e3 : ExtD H2 H3 := (ExtD.of sn).trans (B2'.ext s3)
          have s13 : SameBut b H1 H3 := (s2.trans (SameBut.of sn)).trans s3
          have hys3 : H3 L = some (.lst ys) := e3 L _ (.inl ⟨_, rfl⟩) hys
          have yd : Dp K (del H3 L) y d := dy.keepD ((B1.ext s13).todel fun o so => by rw [hL]; exact fun z => nomatch z)
          have itr : rowD d = true := by unfold rowD; rw [hitd, Bool.or_true]
          obtain ⟨v, dv, hv, hdv, hrow⟩ : ∃ v dv, atI [y, .non, vz, y] r = some v ∧ Dp K (del H3 L) v dv ∧ (dv = d ∨ (rowD dv = true ∧ isT dv = false)) := by
            have zd : Dp K (del H3 L) vz dz ∧ (dz = d ∨ (rowD dz = true ∧ isT dz = false)) := by
              rcases hz with ⟨rfl, rfl⟩ | ⟨rfl, rfl⟩
              · exact ⟨.str _, .inr ⟨by kernel_rfl, rfl⟩⟩
              · exact ⟨yd, .inl rfl⟩
            have cs : r = 0 ∨ r = 1 ∨ r = 2 ∨ r = 3 := by omega
            rcases cs with e | e | e | e <;> subst e
            · exact ⟨y, d, rfl, yd, .inl rfl⟩
            · exact ⟨.non, .none, rfl, .non, .inr ⟨rfl, rfl⟩⟩
            · exact ⟨vz, dz, rfl, zd.1, zd.2⟩
            · exact ⟨y, d, rfl, yd, .inl rfl⟩
          refine ⟨v, hv, ys, hys3, by rw [sizeLine_eq]; omega, ?_, s13.updl hL, ys ++ [v], rs ++ [dv], upd_same, ?_, by rw [List.length_append, hrl]; rfl, ?_, ?_⟩
          · rw [show ct' + ((i + 1 : Nat) : Int) = ct' + i + 1 by omega]
            exact B3.updl (B1.off hL).1 (B1.off hL).2
          · rw [del_upd]
            exact DpAll.snoc (DpAll.keepD e3.del dys) hdv
          · rw [List.all_append, hrows]
            rcases hrow with e | ⟨e, _⟩
            · rw [e]; simp [itr]
            · simp [e]
          · rw [take_more hd, List.filter_append]
            rcases hrow with e | ⟨_, e⟩
            · subst e
              exact hsub.append (List.filter_sublist)
            · rw [List.filter_cons_of_neg (by rw [e]; decide), List.filter_nil, List.append_nil]
              exact hsub.trans (List.sublist_append_left _ _)
        refine ⟨rfl, _, rfl, _, rfl, rfl, _, rfl, ?_⟩
        refine ite2 (fun c1 => ?_) (fun c1 => ?_)
        · refine ⟨_, rfl, (by show 4 ≤ sizeLine; decide), fun l4 hl4 => ⟨_, rfl, b, c, 4, ns, _, rfl, B2.keep (same_upd hl4), by omega, by omega, by decide, by decide, hns, fun r H3 hr0 hr4 B3 s3 => ?_⟩⟩
          obtain ⟨v, hv, acc, h1, h2, h3⟩ := fin (.str "stone") (.str "stone") l4 r H3 (.inl ⟨rfl, rfl⟩) hl4 hr0 hr4 s3 B3
          exact ⟨l4, _, r, v, rfl, rfl, (((B2.keep (same_upd hl4)).ext s3).sqL (SqL.of upd_same)), hv, acc, h1, h2, h3⟩
        · refine ⟨_, rfl, _, rfl, (by show 4 ≤ sizeLine; decide), fun l4 hl4 => ⟨_, rfl, b, c, 4, ns, _, rfl, B2.keep (same_upd hl4), by omega, by omega, by decide, by decide, hns, fun r H3 hr0 hr4 B3 s3 => ?_⟩⟩
          obtain ⟨v, hv, acc, h1, h2, h3⟩ := fin y d l4 r H3 (.inr ⟨rfl, rfl⟩) hl4 hr0 hr4 s3 B3
          exact ⟨l4, _, r, v, rfl, rfl, (((B2.keep (same_upd hl4)).ext s3).sqL (SqL.of upd_same)), hv, acc, h1, h2, h3⟩
      · rintro H2 ⟨B2, s2, ys, rs, hys, dys, hrl, hrows, hsub⟩
        rw [hxl, List.take_length] at hsub
        have ylen := dys.length
        have dys' := DpAll.keep same_del dys
        have hyl : ys.length ≤ 11 := by omega
        have h2a : ∀ {p : Addr} {o : HO}, H2 p = none → L ≠ p := fun h => ne_of_none hys h
        refine ⟨(by show 1 ≤ sizeLine; decide), fun a1 h1 => ⟨_, rfl, a1, L, _, ys, rfl, rfl, upd_same, (same_upd h1) _ _ hys, by rw [sizeLine_eq]; show 1 + _ ≤ _; omega, fun a2 h2 => ⟨_, rfl, _, rfl, a2, _, rfl, SqL.of upd_same, fun a3 h3 => ?_⟩⟩⟩
        have s3 := ((same_upd (o := .lst [V.non]) h1).trans (same_upd (o := .lst ([V.non] ++ ys)) h2)).trans (same_upd (o := .lst (cutV ([V.non] ++ ys) (some (t : Int)) none)) h3)
        refine ⟨(by show 1 ≤ sizeLine; decide), fun a4 h4 => ⟨_, rfl, a4, L, _, ys, rfl, rfl, upd_same, (s3.trans (same_upd h4)) _ _ hys, by rw [sizeLine_eq]; show 1 + _ ≤ _; omega, fun a5 h5 => ⟨_, rfl, _, rfl, a5, _, rfl, SqL.of upd_same, fun a6 h6 => ?_⟩⟩⟩
        have s6 := ((same_upd (o := .lst [V.non]) h4).trans (same_upd (o := .lst ([V.non] ++ ys)) h5)).trans (same_upd (o := .lst (cutV ([V.non] ++ ys) none (some (t : Int)))) h6)
        have l1 := cutV_length ([V.non] ++ ys) (some (t : Int)) none
        have l2 := cutV_length ([V.non] ++ ys) none (some (t : Int))
        have l0 : ([V.non] ++ ys).length = ys.length + 1 := by rw [List.length_append]; show 1 + _ = _; omega
        refine ⟨a3, a6, _, _, rfl, rfl, s6 _ _ upd_same, upd_same, by rw [sizeLine_eq]; omega, fun a7 h7 => .inl ⟨a7, _, rfl, SqL.of upd_same, fun q hq => ?_⟩⟩
        have s7 := (s3.trans s6).trans ((same_upd (o := .lst (cutV ([V.non] ++ ys) (some (t : Int)) none ++ cutV ([V.non] ++ ys) none (some (t : Int)))) h7).trans (same_upd (o := .tup (cutV ([V.non] ++ ys) (some (t : Int)) none ++ cutV ([V.non] ++ ys) none (some (t : Int)))) hq))
        have et : t ≤ ([V.non] ++ ys).length := by omega
        refine k _ ((.none :: rs).drop t ++ (.none :: rs).take t) (ct' + its.length) _ (.tup (SqT.of upd_same) ?_) (ring_of hrows hsub hits t) ?_ ?_ (by omega) (by omega) ((s1.trans s2).trans (SameBut.of s7))
        · have dall : DpAll K H2 ([V.non] ++ ys) (.none :: rs) := .cons .non dys'
          have dcut : DpAll K H2 (cutV ([V.non] ++ ys) (some (t : Int)) none ++ cutV ([V.non] ++ ys) none (some (t : Int))) ((.none :: rs).drop t ++ (.none :: rs).take t) := by
            rw [cut_lo et, cut_hi et]
            exact DpAll.append (DpAll.drop t dall) (DpAll.take t dall)
          exact DpAll.keep s7 dcut
        · rw [(rot_perm _ t).length_eq]
          show rs.length + 1 ≤ 12
          omega
        · rw [← hxl]
          exact B2.keep s7
    refine ⟨_, pss_cons (ps_set (i := 3) scDrawn.nd rfl (Or.inl rfl) (pe_op op_add pe_int (pe_call GD hr1 (by rfl) gD kD bD .nil pass0 (pa_cons (pv 0) (pa_cons pe_int pa_nil)))))
      (pss_cons (ps_set (i := 4) scDrawn.nd rfl (Or.inl rfl) (pe_call GI hr (by rfl) gI kI bI .nil pass0 (pa_cons (pv 0) (pa_cons (pe_op op_sub (pv 3) pe_int) (pa_cons (pv 2) (pa_cons (pe_call GD hr1 (by rfl) gD kD bD .nil pass0 (pa_cons (pv 0) (pa_cons pe_int pa_nil))) pa_nil))))))
      (pss_cons (ps_set (i := 5) scDrawn.nd rfl (Or.inl rfl) (pe_call GD hr1 (by rfl) gD kD bD .nil pass0 (pa_cons (pv 0) (pa_cons (pv 3) pa_nil))))
      (pss_cons (ps_if (pt_cmpR op_eq (pe_call GD hr1 (by rfl) gD kD bD .nil pass0 (pa_cons (pv 0) (pa_cons pe_int pa_nil))) pe_int (nomark _))
        (pss_cons (ps_set (i := 6) scDrawn.nd rfl (Or.inl rfl) (pe_lst pa_nil))
        (pss_cons (ps_for PassesOwn.never rfl (pi_range1 (by rfl) T.range (pa_cons (pe_op op_sub (pv 3) pe_int) pa_nil)) (pg_name (i := 7) scDrawn.nd rfl (Or.inl rfl))
          (pss_cons (ps_asg (pe_ix ix_list (pv 4) (pv 7) (fun _ _ => rfl)) (pg_tup rfl (pgs_cons (pg_name (i := 8) scDrawn.nd rfl (Or.inl rfl)) (pgs_cons (pg_name (i := 9) scDrawn.nd rfl (Or.inl rfl)) (pgs_cons (pg_name (i := 10) scDrawn.nd rfl (Or.inl rfl)) pgs_nil)))))
          (pss_cons (ps_set (i := 11) scDrawn.nd rfl (Or.inl rfl) (pe_op op_mod (pe_callTy call_int1 (by rfl) T.int (by decide +kernel) (pa_cons (pe_op op_sub (pe_op op_sub (pe_op op_add (pv 7) pe_int) (pv 5)) (pe_callB (call_min2 rfl) (by rfl) T2.min (by decide +kernel) (pa_cons (pv 7) (pa_cons (pe_call GD hr1 (by rfl) gD kD bD .nil pass0 (pa_cons (pv 0) (pa_cons pe_int pa_nil))) pa_nil)))) pa_nil)) (pv 3)))
          (pss_one (ps_expr (pe_bm PySem.F.plainAttrs_list PySem.F.slot_list_append PySem.F.type_list_append mt_append (pv 6) (pa_cons (pe_tup (pa_cons (pv 8) (pa_cons (pe_op op_add (pv 11) (pe_op op_mul (pv 3) (pv 9))) (pa_cons (pv 10) pa_nil)))) pa_nil)))))))
        (pss_one (ps_set (i := 4) scDrawn.nd rfl (Or.inl rfl) (pv 6))))) pss_nil) p2))), ?_⟩
    refine ⟨_, rfl, b, c, 12, ns, ct, rfl, B, hct, by omega, by decide, by decide, hns, fun r1 H1 hr10 hr11 B1 s1 => ⟨_, _, rfl, rfl, ?_⟩⟩
    refine ⟨_, rfl, _, rfl, _, _, rfl, rfl, _, rfl, _, rfl, b, c, 50, ns, _, rfl, B1, by omega, by omega, by decide, by decide, hns, fun r2 H2 hr20 hr21 B2 s2 => ?_⟩
    obtain ⟨n, en⟩ : ∃ n : Nat, r1 = (n : Int) := ⟨r1.toNat, by omega⟩
    subst en
    have em : (1 : Int) + (n : Int) - 1 = (n : Int) := by omega
    refine ⟨b, c, n, hs, r2, ns, _, congrArg (fun z => [V.ref b, V.int z, V.int hs, V.int r2]) em, B2, by omega, by omega, by omega, hh, hh2, hns, fun p ys3 its H3 hp hp3 dp3 hil hits _ B3 s3 => ?_⟩
    have dits : Dp K H3 (.ref p) (.list its) := .lst (SqL.of hp3) dp3
    refine ⟨_, rfl, _, rfl, b, c, 1 + (n : Int), ns, _, rfl, B3, by omega, by omega, by omega, by omega, hns, fun r4 H4 hr40 hr41 B4 s4 => ?_⟩
    obtain ⟨t, et⟩ : ∃ t : Nat, r4 = (t : Int) := ⟨r4.toNat, by omega⟩
    subst et
    refine ⟨_, rfl, b, c, 2, ns, _, rfl, B4, by omega, by omega, by decide, by decide, hns, fun r5 H5 hr50 hr51 B5 s5 => ⟨rfl, _, rfl, ?_⟩⟩
    have s15 : SameBut b H H5 := (((s1.trans s2).trans s3).trans s4).trans s5
    have e35 : ExtD H3 H5 := (B3.ext s4).trans (B4.ext s5)
    have dits5 := dits.keepD e35
    refine ite2 (fun c1 => ?_) (fun c1 => ?_)
    · refine ⟨(by show 0 ≤ sizeLine; decide), fun l hl => ?_⟩
      obtain ⟨xs, sq, dp⟩ : ∃ xs, SqL K H5 p xs ∧ DpAll K H5 xs its := by
        cases dits5 with
        | lst q r => exact ⟨_, q, r⟩
      have hall : its.all itemD = true := by
        unfold itemsL at hits
        exact (Bool.and_eq_true_iff.mp hits).1
      have hkd : keysDiffer its = true := by
        unfold itemsL at hits
        exact (Bool.and_eq_true_iff.mp hits).2
      refine ⟨_, rfl, _, _, rfl, rfl, (n : Int), congrArg (fun z => [V.int z]) em, by omega, by omega, for_range (n := n) (fun i σ H' => (∃ x7 x8 x9 xa xb, σ = [some (V.ref b), some (V.str x), some (V.int hs), some (V.int (1 + (n : Int))), some (V.ref p), some (V.int (t : Nat)), some (V.ref l), x7, x8, x9, xa, xb, none, none]) ∧ BagAt H' b c ns (ct + 1 + 1 + 3 * (n : Int) + 1 + 1 + i) ∧ SameBut b H5 H' ∧ ∃ ys js, H' l = some (.lst ys) ∧ DpAll K (del H' l) ys js ∧ js.length = i ∧ js.all itemD = true ∧ js.map keyD = (its.take i).map keyD) ⟨⟨_, _, _, _, _, rfl⟩, ?_, SameBut.of (same_upd hl), [], [], upd_same, .nil, rfl, rfl, by simp⟩ ?_ ?_⟩
      · have := B5.keep (same_upd (o := .lst []) hl)
        simpa using this
      · rintro i σ H6 hi ⟨⟨x7, x8, x9, xa, xb, rfl⟩, B6, s6, ys, js, hys, dys, hjl, hjs, hjk⟩
        have hil2 : i < its.length := by omega
        obtain ⟨y, hy, dy⟩ := dp.get (List.getElem?_eq_getElem hil2)
        have hit : itemD its[i] = true := List.all_eq_true.mp hall _ (List.getElem_mem hil2)
        obtain ⟨kk, xx, mm, ee, hxx⟩ := item_parts hit
        have dy6 := dy.keepD (B5.ext s6)
        rw [ee] at dy6
        obtain ⟨ad, rfl, sqt⟩ := dp_item dy6
        have hy0 : atI xs (0 + (i : Int)) = some (V.ref ad) := by rw [Int.zero_add]; exact atI_nat hy
        refine ⟨_, rfl, _, rfl, p, xs, _, _, rfl, rfl, (B5.ext s6).sqL sq, hy0, ad, _, rfl, sqt, rfl, _, _, rfl, _, _, rfl, _, _, rfl, rfl, ?_⟩
        refine ⟨_, rfl, _, _, rfl, rfl, _, rfl, _, _, rfl, rfl, _, rfl, _, rfl, b, c, 3, ns, _, rfl, B6, by omega, by omega, by decide, by decide, hns, fun r6 H7 hr60 hr61 B7 s7 => ?_⟩
        refine ⟨_, _, rfl, _, _, rfl, rfl, .inl ⟨_, rfl, _, rfl, _, _, rfl, rfl, (by show (0 : Int) < 1 + (n : Int); omega), ?_⟩⟩
        have hpl := Int.emod_nonneg (0 + (i : Int) + 1 - (t : Int) - (if r6 < 0 + (i : Int) then r6 else 0 + (i : Int))) (show (1 : Int) + n ≠ 0 by omega)
        have e67 := B6.ext s7
        have hys7 : H7 l = some (.lst ys) := e67 l _ (.inl ⟨_, rfl⟩) hys
        have ylen := dys.length
        have hmul : 0 ≤ (1 + (n : Int)) * xx := Int.mul_nonneg (by omega) hxx
        refine ⟨_, rfl, .inl ⟨rfl, _, SqL.of hys7⟩, _, rfl, _, rfl, _, rfl, _, rfl, _, _, rfl, rfl, .inl ⟨by omega, by omega⟩, _, _, rfl, rfl, _, rfl, (by show 3 ≤ sizeLine; decide), fun t4 ht4 => ?_⟩
        have nt : l ≠ t4 := ne_of_none hys7 ht4
        refine ⟨l, _, _, rfl, rfl, (upd_ne nt).trans hys7, by rw [sizeLine_eq]; omega, ⟨_, _, _, _, _, rfl⟩, ?_, ?_, _, js ++ [.tuple [.int kk, .int ((0 + (i : Int) + 1 - (t : Int) - (if r6 < 0 + (i : Int) then r6 else 0 + (i : Int))) % (1 + (n : Int)) + (1 + (n : Int)) * xx), .int mm]], upd_same, ?_, by rw [List.length_append, hjl]; rfl, ?_, ?_⟩
        · rw [show ct + 1 + 1 + 3 * (n : Int) + 1 + 1 + ((i + 1 : Nat) : Int) = ct + 1 + 1 + 3 * (n : Int) + 1 + 1 + i + 1 by omega]
          exact (B7.keep (same_upd ht4)).updl (B5.off hl).1 (B5.off hl).2
        · exact (s6.trans (s7.trans (SameBut.of (same_upd ht4)))).updl hl
        · rw [del_upd]
          refine DpAll.snoc (DpAll.keepD (e67.del.trans (ExtD.of (del_new hys7 ht4))) dys) ?_
          exact .tup (SqT.of ((del_ne nt.symm).trans upd_same)) (.cons (.int _) (.cons (.int _) (.cons (.int _) .nil)))
        · rw [List.all_append, hjs, List.all_cons, List.all_nil, Bool.and_true, Bool.true_and]
          exact decide_eq_true (by omega)
        · rw [take_more (List.getElem?_eq_getElem hil2), List.map_append, List.map_append, hjk, ee]
          rfl
      · rintro σ H6 ⟨⟨x7, x8, x9, xa, xb, rfl⟩, B6, s6, ys, js, hys, dys, hjl, hjs, hjk⟩
        have hnl : its.take n = its := List.take_of_length_le (by omega)
        rw [hnl] at hjk
        refine ⟨_, rfl, ?_⟩
        refine q2 _ _ _ _ _ _ _ _ _ l js t _ H6 (.lst (SqL.of hys) (DpAll.keep same_del dys)) ?_ (by omega) (by omega) B6 (by omega) (by omega) (s15.trans s6)
        unfold itemsL
        rw [hjs, Bool.true_and]
        unfold keysDiffer at hkd ⊢
        rw [hjk]
        exact hkd
    · exact q2 _ _ _ _ _ _ _ _ _ p its t _ H5 dits5 hits (by omega) (by omega) B5 (by omega) (by omega) s15
end
end K40

namespace K40
open PySem PySem.Spec PyProof.Rows L2 Rg PySem.RingX
abbrev sLRuns : Stmt := top 34
section
variable {P : Program} {w : World} {K : PySem.W.Frag} {mg : Str → Option Value} {base : Heap}
def spLRuns (K : PySem.W.Frag) : Sp := fun vs H Q E => ∃ (v : V) (ds : List D), vs = [v] ∧ Dp K H v (.tuple ds) ∧ ringL ds = true ∧ ds.length ≤ 1000 ∧ ∀ (p : Addr) (ys : List V) (H' : Hp), H p = none → H' p = some (.lst ys) → DpAll K (del H' p) ys ((runs ds).map pq) → Same H H' → Q (.ref p) H'
theorem scLRuns : FnScope ["ring", "found", "many", "place", "length"] ["ring"] (defScope sLRuns) := ⟨rfl, rfl, rfl, by decide +kernel, rfl, by decide +kernel, by decide +kernel⟩
theorem ok_lruns (R : Raw K mg "_law_runs" sLRuns ["ring"]) (T : GT mg) : Def P w K mg base CX0 "_law_runs" 1 ["ring"] (spLRuns K) := by
  refine R.def fun f fd F => F.ok scLRuns (fun vs H Q E h => ?_) (fun cdv A outer s H vs Q E hr h => ?_)
  · obtain ⟨v, d, rfl, _⟩ := h
    rfl
  · obtain ⟨v, ds, rfl, hd, hring, hl, k1⟩ := h
    refine ⟨_, pss_cons (ps_par (by rfl) scLRuns.nd (i := 1) (j := 2) rfl rfl (by decide) rfl rfl (pa_cons (pe_lst pa_nil) (pa_cons (pe_callB call_len_seq (by rfl) T.len PySem.boot_len (pa_cons (pv 0) pa_nil)) pa_nil)) (by rfl))
      (pss_cons (ps_for PassesOwn.never rfl (pi_range1 (by rfl) T.range (pa_cons (pv 2) pa_nil)) (pg_name (i := 3) scLRuns.nd rfl (Or.inl rfl))
        (pss_one (ps_if (PW.pt (pw_and (pt_cmpR op_notN (pe_ix ix_tup (pv 0) (pv 3) (fun _ _ => rfl)) pe_non (nomark _)) (pw_and1 (pt_cmpR op_isN (pe_ix ix_tup (pv 0) (pe_op op_sub (pv 3) pe_int) (fun _ _ => rfl)) pe_non (nomark _)))))
          (pss_cons (ps_set (i := 4) scLRuns.nd rfl (Or.inl rfl) pe_int)
          (pss_cons (ps_while PassesOwn.never (pt_cmpR op_notN (pe_ix ix_tup (pv 0) (pe_op op_mod (pe_op op_add (pv 3) (pv 4)) (pv 2)) (fun _ _ => rfl)) pe_non (nomark _))
            (pss_one (ps_set (i := 4) scLRuns.nd rfl (Or.inl rfl) (pe_op op_add (pv 4) pe_int))))
          (pss_one (ps_expr (pe_bm PySem.F.plainAttrs_list PySem.F.slot_list_append PySem.F.type_list_append mt_append (pv 1) (pa_cons (pe_tup (pa_cons (pv 3) (pa_cons (pv 4) pa_nil))) pa_nil))))))
          pss_nil)))
      (pss_one (ps_ret (pv 1)))), ?_⟩
    obtain ⟨hop, hpos⟩ := ring_open hring
    obtain ⟨a, xs, rfl, sq, dp⟩ := dp_tup hd
    have hxl := dp.length
    refine ⟨(by show 0 ≤ sizeLine; decide), fun l hl1 => ?_⟩
    have sl : Same H (upd H l (.lst [])) := same_upd hl1
    refine ⟨_, rfl, a, xs, rfl, .inr (sl.sqT sq), _, _, rfl, _, rfl, (xs.length : Int), rfl, by omega, by omega, for_range (n := xs.length) (fun i σ H' => (∃ x2 x3, σ = [some (.ref a), some (.ref l), some (.int (xs.length : Nat)), x2, x3]) ∧ Same H H' ∧ ∃ ys, H' l = some (.lst ys) ∧ DpAll K (del H' l) ys ((runsTo ds i).map pq)) ⟨⟨_, _, rfl⟩, sl, [], upd_same, .nil⟩ ?_ ?_⟩
    · rintro i σ H2 hi ⟨⟨x2, x3, rfl⟩, s2, ys, hy, dy⟩
      have hi2 : i < ds.length := by omega
      obtain ⟨v1, a1, b1⟩ := dp_row dp (i : Int) (by omega) (by omega)
      obtain ⟨v2, a2, b2⟩ := dp_row dp ((i : Int) - 1) (by omega) (by omega)
      have no : ∀ (c : ¬ (¬ Rg.E ds (i : Int) ∧ Rg.E ds ((i : Int) - 1))), (runsTo ds (i + 1)).map pq = (runsTo ds i).map pq := fun c => by
        rw [runsTo_succ, if_neg c, List.append_nil]
      have g1 : atI xs (0 + (i : Int)) = some v1 := by rw [Int.zero_add]; exact a1
      refine ⟨_, rfl, _, rfl, a, xs, _, v1, rfl, rfl, s2.sqT sq, g1, rfl, _, rfl, ?_⟩
      rw [dp_emp b1]
      cases e1 : emp (row ds (i : Int)) with
      | true => exact iteF ⟨⟨_, _, rfl⟩, s2, ys, hy, by rw [no (fun c => c.1 e1)]; exact dy⟩
      | false =>
        have g2 : atI xs (0 + (i : Int) - 1) = some v2 := by rw [Int.zero_add]; exact a2
        refine iteT ⟨_, rfl, _, rfl, _, _, rfl, rfl, a, xs, _, v2, rfl, rfl, s2.sqT sq, g2, rfl, _, rfl, ?_⟩
        rw [dp_emp b2]
        cases e2 : emp (row ds ((i : Int) - 1)) with
        | false => exact iteF ⟨⟨_, _, rfl⟩, s2, ys, hy, by rw [no (fun c => by have := c.2; unfold Rg.E at this; rw [e2] at this; cases this)]; exact dy⟩
        | true =>
          have c1 : ¬ Rg.E ds (i : Int) := fun z => by unfold Rg.E at z; rw [e1] at z; cases z
          obtain ⟨n, hn, isL⟩ := len_ex hpos hop (i : Int)
          refine iteT ⟨fun m σ H' => ∃ k : Nat, m = n - k ∧ k ≤ n ∧ H' = H2 ∧ σ = [some (.ref a), some (.ref l), some (.int (xs.length : Nat)), some (.int (0 + i)), some (.int k)], ⟨_, 0, rfl, Nat.zero_le _, rfl, rfl⟩, ?_⟩
          · rintro m σ H' ⟨k, rfl, hk2, rfl, rfl⟩
            obtain ⟨v3, a3, b3⟩ := dp_row dp (((i : Int) + k) % (ds.length : Int)) (by have := Int.emod_nonneg ((i : Int) + k) (show (ds.length : Int) ≠ 0 by omega); omega) (by have := Int.emod_lt_of_pos ((i : Int) + k) (show (0 : Int) < ds.length by omega); omega)
            rw [row_mod] at b3
            have g3 : atI xs ((0 + (i : Int) + k) % (xs.length : Int)) = some v3 := by rw [Int.zero_add, hxl]; exact a3
            refine ⟨_, rfl, _, rfl, _, rfl, _, _, rfl, rfl, _, rfl, _, _, rfl, rfl, (by show (0 : Int) < (xs.length : Nat); omega), a, xs, _, v3, rfl, rfl, s2.sqT sq, g3, rfl, _, rfl, ?_⟩
            rw [dp_emp b3]
            cases e3 : emp (row ds ((i : Int) + k)) with
            | false =>
              have hkn : k < n := by
                rcases Nat.lt_or_ge k n with z | z
                · exact z
                · have ek : k = n := by omega
                  subst ek
                  have := isL.1
                  unfold Rg.E at this
                  rw [e3] at this
                  cases this
              refine iteT ⟨fun σ' H'' => H'' = H' ∧ σ' = [some (.ref a), some (.ref l), some (.int (xs.length : Nat)), some (.int (0 + i)), some (.int ((k + 1 : Nat) : Int))], fun σ' H'' ⟨z1, z2⟩ => ⟨n - (k + 1), by omega, k + 1, rfl, hkn, z1, z2⟩, ?_⟩
              exact ⟨_, rfl, _, _, rfl, rfl, rfl, rfl⟩
            | true =>
              have ek : k = n := by
                rcases Nat.lt_or_ge k n with z | z
                · exact absurd e3 (isL.2 k z)
                · omega
              subst ek
              refine iteF ⟨_, rfl, .inl ⟨rfl, _, SqL.of hy⟩, _, rfl, _, rfl, (by show 2 ≤ sizeLine; decide), fun t ht => ?_⟩
              have ylen := dy.length
              have rl : ((runsTo ds i).map pq).length ≤ i := by
                rw [List.length_map]
                unfold runsTo
                refine Nat.le_trans (List.length_filterMap_le _ _) ?_
                rw [List.length_range]; exact Nat.le_refl _
              have nt : l ≠ t := ne_of_none hy ht
              refine ⟨l, _, _, rfl, rfl, (upd_ne nt).trans hy, by rw [sizeLine_eq]; omega, ⟨_, _, rfl⟩, (s2.trans (same_upd ht)).updl hl1, _, upd_same, ?_⟩
              rw [runsTo_succ, if_pos ⟨c1, e2⟩, List.map_append, del_upd]
              refine DpAll.snoc (DpAll.keep (del_new hy ht) dy) ?_
              rw [show pq (i, len ds (i : Int)) = .tuple [.int (i : Int), .int (k : Int)] by unfold pq; rw [len_of isL]]
              have et : del (upd H' t (.tup [V.int (0 + i), V.int k])) l t = some (.tup [V.int (0 + i), V.int k]) := (del_ne (Ne.symm nt)).trans upd_same
              have e0 : (V.int (i : Int)) = V.int (0 + i) := by rw [Int.zero_add]
              refine .tup (SqT.of et) (.cons ?_ (.cons (.int _) .nil))
              rw [← e0]
              exact .int _
    · rintro σ H2 ⟨⟨x2, x3, rfl⟩, s2, ys, hy, dy⟩
      rw [hxl] at dy
      exact ⟨_, rfl, k1 l ys H2 hl1 hy dy s2⟩
end
end K40

namespace K40
open PySem PySem.Spec PyProof.Rows L2 Rg PySem.RingX
abbrev sLLaw : Stmt := top 31
/-! ### the places of items, and how far they are from home -/
def fdK (ds : List D) : Nat → List Nat
  | 0 => []
  | n + 1 => fdK ds n ++ (if isT (row ds (n : Int)) = true then [n] else [])
def fdOf (ds : List D) (ks : List Nat) : List (Key × V) := ks.map fun (r : Nat) => ((Sum.inl (r : Int) : Key), V.int (gap ds (r : Int)))
theorem mem_fdK {ds : List D} : ∀ {n r : Nat}, r ∈ fdK ds n ↔ r < n ∧ isT (row ds (r : Int)) = true
  | 0, r => by simp [fdK]
  | n + 1, r => by
    unfold fdK
    rw [List.mem_append, mem_fdK (n := n)]
    by_cases c : isT (row ds (n : Int)) = true
    · rw [if_pos c, List.mem_singleton]
      constructor
      · rintro (⟨h1, h2⟩ | h)
        · exact ⟨by omega, h2⟩
        · subst h; exact ⟨by omega, c⟩
      · rintro ⟨h1, h2⟩
        by_cases e : r = n
        · exact .inr e
        · exact .inl ⟨by omega, h2⟩
    · rw [if_neg c]
      constructor
      · rintro (⟨h1, h2⟩ | h)
        · exact ⟨by omega, h2⟩
        · cases h
      · rintro ⟨h1, h2⟩
        refine .inl ⟨?_, h2⟩
        rcases Nat.lt_or_ge r n with z | z
        · exact z
        · have e : r = n := by omega
          subst e
          exact absurd h2 c
theorem fdK_len (ds : List D) : ∀ n, (fdK ds n).length ≤ n
  | 0 => Nat.le_refl _
  | n + 1 => by
    unfold fdK
    rw [List.length_append]
    have := fdK_len ds n
    split <;> simp <;> omega
theorem valV_fd (ds : List D) : ∀ (ks : List Nat) (j : Nat), valV (fdOf ds ks) (Sum.inl (j : Int)) = if j ∈ ks then some (V.int (gap ds (j : Int))) else none
  | [], j => by simp [fdOf, valV]
  | k :: ks, j => by
    unfold fdOf
    rw [List.map_cons]
    by_cases e : k = j
    · subst e
      rw [valV_pos rfl, if_pos List.mem_cons_self]
    · have ne : ¬ ((Sum.inl (k : Int) : Key)) = Sum.inl (j : Int) := fun z => e (by have := Sum.inl.inj z; omega)
      rw [valV_neg ne]
      have ih := valV_fd ds ks j
      unfold fdOf at ih
      rw [ih]
      by_cases m : j ∈ ks
      · rw [if_pos m, if_pos (List.mem_cons_of_mem _ m)]
      · rw [if_neg m, if_neg (fun z => by rcases List.mem_cons.mp z with z | z; exact e z.symm; exact m z)]
theorem fd_put {ds : List D} {n : Nat} (h : isT (row ds (n : Int)) = true) : putK (fdOf ds (fdK ds n)) (Sum.inl (n : Int)) (V.int (gap ds (n : Int))) = fdOf ds (fdK ds (n + 1)) := by
  rw [putK_new]
  · unfold fdOf
    rw [show fdK ds (n + 1) = fdK ds n ++ [n] by rw [fdK, if_pos h], List.map_append]
    rfl
  · rw [valV_fd, if_neg (fun z => Nat.lt_irrefl n (mem_fdK.mp z).1)]
theorem fd_same {ds : List D} {n : Nat} (h : isT (row ds (n : Int)) = false) : fdK ds (n + 1) = fdK ds n := by
  rw [fdK, if_neg (by rw [h]; decide), List.append_nil]
/-! ### a walk from home -/
def WalkOk (ds : List D) (r : Int) : Prop := ∀ j : Nat, (j : Int) ≤ gap ds r → ¬ Rg.E ds (r - j)
theorem reached_nat {ds : List D} (hm : 0 < ds.length) : Reached ds ↔ ∀ r : Nat, r < ds.length → isT (row ds (r : Int)) = true → WalkOk ds r := by
  constructor
  · intro h r _ ht
    exact h r ht
  · intro h r ht j hj
    obtain ⟨e, hl⟩ := ix_ok hm r
    have c0 : (((r % (ds.length : Int)).toNat : Nat) : Int) % ds.length = r % ds.length := by rw [e, Int.emod_emod_of_dvd _ (Int.dvd_refl _)]
    have := h _ hl (by rw [row_congr c0]; exact ht) j (by rw [gap_congr c0]; exact hj)
    rw [E_congr (show ((((r % (ds.length : Int)).toNat : Nat) : Int) - j) % ds.length = (r - j) % ds.length by rw [Int.sub_emod, c0, ← Int.sub_emod])] at this
    exact this
/-- the row that is s steps behind the home of the item in the row r -/
theorem walk_at {ds : List D} (hm : 0 < ds.length) (r : Int) (s : Nat) : (hashD (row ds r) + s) % (ds.length : Int) = (r - (gap ds r - s)) % (ds.length : Int) := by
  have h1 : (r - gap ds r) % (ds.length : Int) = hashD (row ds r) % (ds.length : Int) := by
    unfold gap
    rw [Int.sub_emod, Int.emod_emod_of_dvd _ (Int.dvd_refl _), ← Int.sub_emod]
    congr 1
    omega
  rw [show r - (gap ds r - s) = (r - gap ds r) + s by omega, Int.add_emod, ← h1, ← Int.add_emod]
theorem walk_home {ds : List D} (hm : 0 < ds.length) {r s : Nat} (hr : r < ds.length) (hs : (s : Int) ≤ gap ds r) : (hashD (row ds r) + s) % (ds.length : Int) = r ↔ (s : Int) = gap ds r := by
  have hg := gap_lt hm (r : Int)
  have er : (r : Int) % (ds.length : Int) = r := Int.emod_eq_of_lt (by omega) (by omega)
  rw [walk_at hm]
  constructor
  · intro h
    rw [← er] at h
    have h2 : ((ds.length : Int)) ∣ ((r : Int) % ds.length - (gap ds ((r : Int) % ds.length) - s)) - (r : Int) % ds.length := by
      have := Int.emod_emod_of_dvd ((r : Int) % ds.length - (gap ds ((r : Int) % ds.length) - s)) (Int.dvd_refl (ds.length : Int))
      refine Int.dvd_of_emod_eq_zero ?_
      rw [Int.sub_emod, h]
      simp
    rw [er] at h2
    obtain ⟨q, hq⟩ := h2
    have : (s : Int) - gap ds r = ds.length * q := by omega
    have hq0 : q = 0 := by
      rcases Int.lt_trichotomy q 0 with z | z | z
      · have : (ds.length : Int) * q ≤ ds.length * (-1) := Int.mul_le_mul_of_nonneg_left (by omega) (by omega)
        omega
      · exact z
      · have : (ds.length : Int) * 1 ≤ ds.length * q := Int.mul_le_mul_of_nonneg_left (by omega) (by omega)
        omega
    rw [hq0] at this
    omega
  · intro h
    rw [h, Int.sub_self, Int.sub_zero, er]
end K40

namespace K40
open PySem PySem.Spec PyProof.Rows L2 Rg PySem.RingX
/-- what is wrong with the order behind the row r -/
def OffAt (ds : List D) (r : Nat) : Prop := isT (row ds ((r : Int) + 1)) = true ∧ gap ds (r : Int) + 1 < gap ds ((r : Int) + 1)
instance (ds : List D) (r : Nat) : Decidable (OffAt ds r) := inferInstanceAs (Decidable (_ ∧ _))
theorem ints_shape : ∀ (ns : List Int), PyData.canLayAll0 (ns.map PyData.int) = true ∧ PyData.depthAll (ns.map PyData.int) ≤ 1
  | [] => by simp [PyData.canLayAll0, PyData.depthAll]
  | n :: ns => by
    obtain ⟨h1, h2⟩ := ints_shape ns
    simp only [List.map_cons, PyData.canLayAll0, PyData.depthAll, PyData.canLay0, PyData.depth, h1, Bool.and_self, true_and]
    omega
theorem dp_ints {K : PySem.W.Frag} {H : Hp} : ∀ ns : List Int, DpAll K H (ns.map V.int) (ns.map PyData.int)
  | [] => .nil
  | n :: ns => .cons (.int n) (dp_ints ns)
def forB : Stmt → List Stmt | .For _ _ b _ _ => b | _ => []
section
variable {P : Program} {w : World} {K : PySem.W.Frag} {mg : Str → Option Value} {base : Heap}
def spLLaw (K : PySem.W.Frag) : Sp := fun vs H Q E => ∃ (v : V) (ds : List D) (x : Str), vs = [v, .str x] ∧ Dp K H v (.tuple ds) ∧ ringL ds = true ∧ ds.length ≤ 1000 ∧ (x = "plain" ∨ x = "stones" ∨ x = "sorted") ∧ ∀ (b : Bool) (H' : Hp), (b = true ↔ Lawful ds x) → Same H H' → Q (.bl b) H'
theorem scLLaw : FnScope ["ring", "way", "many", "far", "place", "here", "steps", "k"] ["ring", "way"] (defScope sLLaw) := ⟨rfl, rfl, rfl, by decide +kernel, rfl, by decide +kernel, by decide +kernel⟩
theorem ok_llaw (R : Raw K mg "_law_lawful" sLLaw ["ring", "way"]) (T : GT mg) : Def P w K mg base CX0 "_law_lawful" 1 ["ring", "way"] (spLLaw K) := by
  refine R.def fun f fd F => F.ok scLLaw (fun vs H Q E h => ?_) (fun cdv A outer s H vs Q E hr h => ?_)
  · obtain ⟨v, d, x, rfl, _⟩ := h
    rfl
  · obtain ⟨v, ds, x, rfl, hd, hring, hl, hx, k⟩ := h
    have hu := hu_of hr
    have hu64 : (A.deeper (envOfC "_law_lawful" (defScope sLLaw) s.heap.objs.size f cdv)).units + 64 < cLine := by have := hr.un; omega
    -- the end
    obtain ⟨t2, p2, q2⟩ : ∃ t2, PSs (cxOf CX0 P w K mg base ["ring", "way", "many", "far", "place", "here", "steps", "k"] "_law_lawful" (defScope sLLaw) f cdv A outer s H E).nox ((defBody sLLaw).drop 3) t2 ∧
        ∀ (a d : Addr) (x4 x5 x6 x7 : Option V) (H1 : Hp), Same H H1 → H d = none → H1 d = some (.dK (fdOf ds (fdK ds ds.length))) → (x ≠ "stones" → NoStone ds) → Reached ds →
          t2 { nx := fun _ H' => Q .non H', rt := Q } [some (.ref a), some (.str x), some (.int (ds.length : Nat)), some (.ref d), x4, x5, x6, x7] H1 := by
      refine ⟨_, pss_cons (ps_if (pt_cmpR op_eq (pv 1) pe_str (nomark _))
          (pss_one (ps_ret (pe_cmpR (op_eqD hu64) (pe_lock (pe_lc (own := [("k", 7)]) (g := gName 7) rfl scLLaw.nd (pi_keys (pv 3)) (blkOk_by (own := [("k", 7)]) (N := ["ring", "way", "many", "far", "place", "here", "steps", "k"]) (sc := defScope sLLaw) (by decide +kernel))
            (fun _ _ _ _ _ => pg_name (i := 7) scLLaw.nd rfl (Or.inl rfl))
            (fun _ _ _ _ _ => pts_one (PW.pt (pw_and (pt_cmp (pc_din hu (pe_op op_mod (pe_op op_add (pv 7) pe_int) (pv 2)) (pv 3))) (pw_and1 (pt_cmpR op_gt (pe_dget hu (pv 3) (pe_op op_mod (pe_op op_add (pv 7) pe_int) (pv 2)) (fun _ _ => rfl)) (pe_op op_add (pe_dget hu (pv 3) (pv 7) (fun _ _ => rfl)) pe_int) (nomark _))))))
            (fun _ _ _ _ _ => pv 7))) (pe_lst pa_nil) (by rfl)))) pss_nil)
        (pss_one (ps_ret pe_bl)), ?_⟩
      intro a d x4 x5 x6 x7 H1 s1 hd0 hdk hns hR
      obtain ⟨hop, hpos⟩ := ring_open hring
      refine ⟨_, rfl, rfl, _, rfl, ?_⟩
      by_cases c : x = "sorted"
      · refine ifT (decide_eq_true (congrArg V.str c)) ?_
        have c1 : x ≠ "stones" := by rw [c]; decide
        have c2 : x ≠ "plain" := by rw [c]; decide
        refine ⟨d, _, hdk, trivial, fun od => ⟨_, rfl, d, od, rfl, .inl ⟨_, upd_same, fun L hL => ?_⟩⟩⟩
        have nLd : d ≠ L := fun z => by rw [z, upd_same] at hL; cases hL
        have hL1 : H1 L = none := by rw [upd_ne nLd.symm] at hL; exact hL
        refine ⟨fun i m H2 => m = (fdK ds ds.length).length - i ∧ i ≤ (fdK ds ds.length).length ∧ H2 d = some (.frz od (.dK (fdOf ds (fdK ds ds.length)))) ∧ Same (del H1 d) H2 ∧ ∃ ns : List Int, H2 L = some (.lst (ns.map V.int)) ∧ ns.length ≤ i ∧ (ns = [] ↔ ∀ r ∈ (fdK ds ds.length).take i, ¬ OffAt ds r),
          ⟨_, rfl, Nat.zero_le _, by rw [upd_ne nLd, upd_same], fun b o h => ?_, [], upd_same, Nat.le_refl _, by simp⟩, ?_⟩
        · have nb : b ≠ d := fun z => by rw [z, del_same] at h; cases h
          rw [del_ne nb] at h
          rw [upd_ne (ne_of_none h hL1), upd_ne nb]
          exact h
        · rintro i m H2 ⟨rfl, hi, hd2, s2, ns, hns2, hnl, hiff⟩
          have klen : (fdOf ds (fdK ds ds.length)).length = (fdK ds ds.length).length := by unfold fdOf; rw [List.length_map]
          by_cases hlt : i < (fdK ds ds.length).length
          · refine .inr ⟨⟨hd2, by rw [klen]; exact hlt⟩, fun H3 => i + 1 ≤ (fdK ds ds.length).length ∧ H3 d = some (.frz od (.dK (fdOf ds (fdK ds ds.length)))) ∧ Same (del H1 d) H3 ∧ ∃ ns : List Int, H3 L = some (.lst (ns.map V.int)) ∧ ns.length ≤ i + 1 ∧ (ns = [] ↔ ∀ r ∈ (fdK ds ds.length).take (i + 1), ¬ OffAt ds r), fun H3 z => ⟨_, by omega, rfl, z⟩, ?_⟩
            rintro y H3 ⟨rfl, kk, vv, hk, rfl⟩
            obtain ⟨r, hr, rfl⟩ : ∃ r : Nat, (fdK ds ds.length)[i]? = some r ∧ kk = Sum.inl (r : Int) := by
              unfold fdOf at hk
              rw [List.getElem?_map] at hk
              obtain ⟨r, h1, h2⟩ := Option.map_eq_some_iff.mp hk
              exact ⟨r, h1, (Prod.mk.inj h2).1.symm⟩
            obtain ⟨hr1, hr2⟩ := mem_fdK.mp (List.mem_of_getElem? hr)
            have htk : (fdK ds ds.length).take (i + 1) = (fdK ds ds.length).take i ++ [r] := take_more hr
            have hn1 := Int.emod_lt_of_pos ((r : Int) + 1) (show (0 : Int) < ds.length by omega)
            have hn0 := Int.emod_nonneg ((r : Int) + 1) (show (ds.length : Int) ≠ 0 by omega)
            obtain ⟨q, eq⟩ : ∃ q : Nat, ((r : Int) + 1) % (ds.length : Int) = q := ⟨(((r : Int) + 1) % (ds.length : Int)).toNat, by omega⟩
            have erow : row ds (q : Int) = row ds ((r : Int) + 1) := by rw [← eq, row_mod]
            have egap : gap ds (q : Int) = gap ds ((r : Int) + 1) := by rw [← eq, gap_mod]
            have hposn : (0 : Int) < (ds.length : Nat) := by omega
            have hv : valV (fdOf ds (fdK ds ds.length)) (Sum.inl (((r : Int) + 1) % (ds.length : Int))) = if isT (row ds ((r : Int) + 1)) = true then some (V.int (gap ds ((r : Int) + 1))) else none := by
              rw [eq, valV_fd, egap]
              by_cases z : isT (row ds ((r : Int) + 1)) = true
              · rw [if_pos z, if_pos (mem_fdK.mpr ⟨by omega, by rw [erow]; exact z⟩)]
              · rw [if_neg z, if_neg (fun y => z (by rw [← erow]; exact (mem_fdK.mp y).2))]
            have dg : DGet H3 d (V.int (((r : Int) + 1) % (ds.length : Int))) (if isT (row ds ((r : Int) + 1)) = true then some (V.int (gap ds ((r : Int) + 1))) else none) := .inl ⟨_, Sum.inl (((r : Int) + 1) % (ds.length : Int)), .inr ⟨od, hd2⟩, rfl, hv.symm⟩
            have hv0 : valV (fdOf ds (fdK ds ds.length)) (Sum.inl (r : Int)) = some (V.int (gap ds (r : Int))) := by
              rw [valV_fd, if_pos (mem_fdK.mpr ⟨hr1, hr2⟩)]
            have dg0 : DGet H3 d (V.int (r : Int)) (some (V.int (gap ds (r : Int)))) := .inl ⟨_, Sum.inl (r : Int), .inr ⟨od, hd2⟩, rfl, hv0.symm⟩
            have skip : ¬ OffAt ds r → (i + 1 ≤ (fdK ds ds.length).length ∧ H3 d = some (.frz od (.dK (fdOf ds (fdK ds ds.length)))) ∧ Same (del H1 d) H3 ∧ ∃ ns : List Int, H3 L = some (.lst (ns.map V.int)) ∧ ns.length ≤ i + 1 ∧ (ns = [] ↔ ∀ r ∈ (fdK ds ds.length).take (i + 1), ¬ OffAt ds r)) := fun hoff => by
              refine ⟨hlt, hd2, s2, ns, hns2, by omega, ?_⟩
              rw [htk, hiff]
              constructor
              · intro h r' hr'
                rcases List.mem_append.mp hr' with z | z
                · exact h r' z
                · rw [List.mem_singleton.mp z]; exact hoff
              · intro h r' hr'
                exact h r' (List.mem_append_left _ hr')
            refine ⟨rfl, _, rfl, _, _, rfl, rfl, _, rfl, _, _, rfl, rfl, hposn, _, rfl, d, _, rfl, dg, _, rfl, ?_⟩
            by_cases hT : isT (row ds ((r : Int) + 1)) = true
            · rw [if_pos hT] at dg
              refine ifT (by rw [if_pos hT]; rfl) ?_
              refine ⟨_, rfl, _, rfl, _, _, rfl, rfl, _, rfl, _, _, rfl, rfl, hposn, d, _, rfl, dg, _, rfl, _, rfl, d, _, rfl, dg0, _, _, rfl, rfl, _, _, rfl, rfl, _, rfl, ?_⟩
              refine ite2 (fun c3 => ?_) (fun c3 => ?_)
              · have hoff : OffAt ds r := ⟨hT, of_decide_eq_true c3⟩
                refine ⟨_, rfl, _, hns2, by rw [List.length_map, sizeLine_eq]; have := fdK_len ds ds.length; omega, hlt, ?_, ?_, ns ++ [(r : Int)], ?_, by rw [List.length_append]; show ns.length + 1 ≤ i + 1; omega, ?_⟩
                · rw [upd_ne nLd]; exact hd2
                · refine s2.updl ?_
                  rw [del_ne nLd.symm]; exact hL1
                · rw [upd_same, List.map_append]; rfl
                · rw [htk]
                  constructor
                  · intro z; simp at z
                  · intro h; exact absurd hoff (h r (by simp))
              · exact skip (fun z => c3 (decide_eq_true z.2))
            · refine ifF (by rw [if_neg hT]; rfl) ?_
              exact skip (fun z => hT z.1)
          · have ei : i = (fdK ds ds.length).length := by omega
            subst ei
            refine .inl ⟨⟨hd2, by rw [klen]; exact Nat.le_refl _⟩, hd2, (by show 0 ≤ sizeLine; decide), fun l2 hl2 => ?_⟩
            rw [List.take_length] at hiff
            have nl2 : L ≠ l2 := fun z => by rw [← z, upd_ne nLd.symm, hns2] at hl2; cases hl2
            have eL : upd (upd H2 d (.dK (fdOf ds (fdK ds ds.length)))) l2 (.lst []) L = some (.lst (ns.map V.int)) := by rw [upd_ne nl2, upd_ne nLd.symm]; exact hns2
            have hsh : SeqAt.shaped (.list (ns.map PyData.int)) = true := by
              obtain ⟨z1, z2⟩ := ints_shape ns
              unfold SeqAt.shaped
              simp only [PyData.canLay0, PyData.depth, z1, Bool.true_and]
              exact decide_eq_true (by omega)
            refine ⟨.list (ns.map PyData.int), .list [], .lst (SqL.of eL) (dp_ints ns), .lst (SqL.of upd_same) .nil, hsh, (by kernel_rfl), ?_⟩
            have ev : PyData.eqv (.list (ns.map PyData.int)) (.list []) = decide (ns = []) := by
              cases ns with
              | nil => rfl
              | cons _ _ => rfl
            rw [ev]
            have sH : Same H (upd (upd H2 d (.dK (fdOf ds (fdK ds ds.length)))) l2 (.lst [])) := by
              have z1 : Same H (del H1 d) := s1.todel hd0
              have z2 : Same H (upd H2 d (.dK (fdOf ds (fdK ds ds.length)))) := (z1.trans s2).updl hd0
              exact z2.trans (same_upd hl2)
            refine k _ _ ⟨fun z => ⟨fun y => absurd y c1, fun _ => ⟨hns c1, hR, fun _ => ?_⟩⟩, fun z => ?_⟩ sH
            · have hno := hiff.mp (of_decide_eq_true z)
              refine (inOrder_nat hpos).mpr fun r hr h1 h2 => ?_
              have := hno r (mem_fdK.mpr ⟨hr, h1⟩)
              exact Int.not_lt.mp fun y => this ⟨h2, y⟩
            · refine decide_eq_true (hiff.mpr fun r hr hoff => ?_)
              obtain ⟨hr1, hr2⟩ := mem_fdK.mp hr
              have := (inOrder_nat hpos).mp ((z.2 c1).2.2 c2) r hr1 hr2 hoff.1
              have := hoff.2
              omega
      · refine ifF (decide_eq_false fun z => c (V.str.inj z)) ?_
        refine k true H1 ⟨fun _ => ⟨fun _ => hR, fun z => ⟨hns z, hR, fun y => ?_⟩⟩, fun _ => rfl⟩ s1
        rcases hx with e | e | e
        · exact absurd e y
        · exact absurd e z
        · exact absurd e c
    -- an item's walk
    obtain ⟨t3, p3, q3⟩ : ∃ t3, PSs (cxOf CX0 P w K mg base ["ring", "way", "many", "far", "place", "here", "steps", "k"] "_law_lawful" (defScope sLLaw) f cdv A outer s H E).nox ((forB ((defBody sLLaw).getD 2 (.Pass ⟨0, 0, 0, 0⟩))).drop 1) t3 ∧
        ∀ (D : Ends) (a d : Addr) (xs : List V) (i : Nat) (x5 x6 : Option V) (H' : Hp), i < ds.length → SqT K H a xs → DpAll K H xs ds → Same H H' → H d = none → H' d = some (.dK (fdOf ds (fdK ds i))) →
          (∀ (x5 x6 : Option V) (H2 : Hp), Same H H2 → H2 d = some (.dK (fdOf ds (fdK ds (i + 1)))) → (isT (row ds (i : Int)) = true → WalkOk ds (i : Int)) → D.nx [some (.ref a), some (.str x), some (.int (xs.length : Nat)), some (.ref d), some (.int (0 + (i : Int))), x5, x6, none] H2) →
          (isT (row ds (i : Int)) = true → ¬ WalkOk ds (i : Int) → D.rt (.bl false) H') →
          t3 D [some (.ref a), some (.str x), some (.int (xs.length : Nat)), some (.ref d), some (.int (0 + (i : Int))), x5, x6, none] H' := by
      refine ⟨_, pss_one (ps_if (pt_val (pe_callB call_isi (by rfl) T.isi (by decide +kernel) (pa_cons (pe_ix ix_tup (pv 0) (pv 4) (fun _ _ => rfl)) (pa_cons (pe_bltn (v := .ty "tuple") (by rfl) T.tup (by decide +kernel) rfl) pa_nil))))
          (pss_cons (ps_par (by rfl) scLLaw.nd (i := 5) (j := 6) rfl rfl (by decide) rfl rfl (pa_cons (pe_op op_mod (pe_ix ix_tup (pe_ix ix_tup (pv 0) (pv 4) (fun _ _ => rfl)) pe_int (fun _ _ => rfl)) (pv 2)) (pa_cons pe_int pa_nil)) (by rfl))
          (pss_cons (ps_while PassesOwn.never (PW.pt (pw_and (pt_cmpR op_ne (pv 5) (pv 4) (nomark _)) (pw_and1 (pt_cmpR op_notN (pe_ix ix_tup (pv 0) (pv 5) (fun _ _ => rfl)) pe_non (nomark _)))))
            (pss_one (ps_par (by rfl) scLLaw.nd (i := 5) (j := 6) rfl rfl (by decide) rfl rfl (pa_cons (pe_op op_mod (pe_op op_add (pv 5) pe_int) (pv 2)) (pa_cons (pe_op op_add (pv 6) pe_int) pa_nil)) (by rfl))))
          (pss_cons (ps_if (pt_cmpR op_ne (pv 5) (pv 4) (nomark _)) (pss_one (ps_ret pe_bl)) pss_nil)
          (pss_one (ps_dput hu (pv 3) (pv 4) (pv 6) rfl)))))
          pss_nil), ?_⟩
      intro D a d xs i x5 x6 H' hi sq dp s1 hd0 hdk kn kr
      have hxl := dp.length
      obtain ⟨hop, hpos⟩ := ring_open hring
      obtain ⟨v1, hv1, dv1⟩ := dp.get (row_get? hi)
      have hv0 : atI xs (0 + (i : Int)) = some v1 := by rw [Int.zero_add]; exact atI_nat hv1
      have dv := dv1.keep s1
      refine ⟨_, rfl, _, rfl, a, xs, _, v1, rfl, rfl, s1.sqT sq, hv0, v1, _, _, _, isT (row ds (i : Int)), rfl, .ty _, dp_ty dv, kit_ty (kit_tup dv), _, rfl, ?_⟩
      cases ht : isT (row ds (i : Int)) with
      | false => exact iteF (kn _ _ _ s1 (by rw [fd_same ht]; exact hdk) (fun z => by rw [ht] at z; cases z))
      | true =>
        obtain ⟨kk, xx, mm, ee, hxx⟩ := item_parts (row_item_at hring _ ht)
        rw [ee] at dv
        obtain ⟨b, rfl, sqb⟩ := dp_item dv
        have hh : hashD (row ds (i : Int)) = xx := by rw [ee]; rfl
        have hposx : (0 : Int) < (xs.length : Nat) := by omega
        refine iteT ⟨_, rfl, _, rfl, a, xs, _, _, rfl, rfl, s1.sqT sq, hv0, b, _, 1, V.int xx, rfl, rfl, sqb, rfl, _, rfl, _, _, rfl, rfl, hposx, _, _, rfl, ?_⟩
        have hg0 := gap_nn hpos (i : Int)
        have hgl := gap_lt hpos (i : Int)
        refine ⟨fun m σ H2 => ∃ st : Nat, m = (gap ds (i : Int)).toNat - st ∧ (st : Int) ≤ gap ds (i : Int) ∧ H2 = H' ∧ (∀ j : Nat, j < st → ¬ Rg.E ds (xx + j)) ∧ σ = [some (V.ref a), some (V.str x), some (V.int (xs.length : Nat)), some (V.ref d), some (V.int (0 + (i : Int))), some (V.int ((xx + st) % (xs.length : Int))), some (V.int (st : Nat)), none], ⟨_, 0, rfl, hg0, rfl, fun j hj => absurd hj (Nat.not_lt_zero j), ?_⟩, ?_⟩
        · rw [show xx + ((0 : Nat) : Int) = xx by omega]
          rfl
        · rintro m σ H2 ⟨st, rfl, hst, rfl, hE, rfl⟩
          have hwh := walk_home hpos hi hst
          rw [hh] at hwh
          refine ⟨_, rfl, _, rfl, rfl, _, rfl, ?_⟩
          by_cases c1 : (st : Int) = gap ds (i : Int)
          · -- at home
            have e1 : (xx + (st : Int)) % (xs.length : Int) = 0 + (i : Int) := by rw [hxl, Int.zero_add]; exact hwh.mpr c1
            refine ifF (by rw [e1, decide_eq_true rfl]; rfl) ?_
            refine ⟨_, rfl, _, rfl, rfl, _, rfl, ifF (by rw [e1, decide_eq_true rfl]; rfl) ?_⟩
            refine ⟨_, rfl, _, rfl, _, rfl, d, _, rfl, DPut.k (k := Sum.inl (0 + (i : Int))) hdk ?_, ?_⟩
            · unfold fdOf
              rw [List.length_map, sizeLine_eq]
              have := fdK_len ds i
              omega
            · refine kn _ _ _ (s1.updl hd0) ?_ (fun _ j hj => ?_)
              · rw [upd_same, c1, Int.zero_add]
                exact congrArg (fun z => some (HO.dK z)) (fd_put ht)
              · cases j with
                | zero =>
                  rw [show (i : Int) - ((0 : Nat) : Int) = i by omega]
                  exact isT_notE ht
                | succ j =>
                  have := hE (st - (j + 1)) (by omega)
                  rw [E_congr (show (xx + ((st - (j + 1) : Nat) : Int)) % (ds.length : Int) = ((i : Int) - ((j + 1 : Nat) : Int)) % ds.length by
                    have := walk_at hpos (i : Int) (st - (j + 1))
                    rw [hh] at this
                    rw [this]
                    congr 1
                    omega)] at this
                  exact this
          · have c2 : (xx + (st : Int)) % (xs.length : Int) ≠ 0 + (i : Int) := fun z => c1 (hwh.mp (by rw [hxl, Int.zero_add] at z; exact z))
            have hne : (!decide (V.int ((xx + (st : Int)) % (xs.length : Int)) = V.int (0 + (i : Int)))) = true := by rw [decide_eq_false (fun z => c2 (V.int.inj z))]; rfl
            refine ifT hne ?_
            obtain ⟨v3, a3, b3⟩ := dp_row dp ((xx + (st : Int)) % (ds.length : Int)) (by have := Int.emod_nonneg (xx + (st : Int)) (show (ds.length : Int) ≠ 0 by omega); omega) (by have := Int.emod_lt_of_pos (xx + (st : Int)) (show (0 : Int) < ds.length by omega); omega)
            rw [row_mod] at b3
            have g3 : atI xs ((xx + (st : Int)) % (xs.length : Int)) = some v3 := by rw [hxl]; exact a3
            refine ⟨_, rfl, _, rfl, a, xs, _, v3, rfl, rfl, s1.sqT sq, g3, rfl, _, rfl, ?_⟩
            rw [dp_emp b3]
            cases e3 : emp (row ds (xx + (st : Int))) with
            | false =>
              refine iteT ⟨fun σ' H'' => H'' = H2 ∧ σ' = [some (V.ref a), some (V.str x), some (V.int (xs.length : Nat)), some (V.ref d), some (V.int (0 + (i : Int))), some (V.int ((xx + ((st + 1 : Nat) : Int)) % (xs.length : Int))), some (V.int ((st + 1 : Nat) : Int)), none], fun σ' H'' ⟨z1, z2⟩ => ⟨(gap ds (i : Int)).toNat - (st + 1), by omega, st + 1, rfl, by omega, z1, fun j hj => ?_, z2⟩, ?_⟩
              · by_cases ej : j = st
                · subst ej
                  intro z
                  unfold Rg.E at z
                  rw [e3] at z
                  cases z
                · exact hE j (by omega)
              · refine ⟨_, rfl, _, _, rfl, rfl, _, rfl, _, _, rfl, rfl, hposx, _, rfl, _, _, rfl, rfl, _, _, rfl, rfl, ?_⟩
                have e5 : ((xx + (st : Int)) % (xs.length : Int) + 1) % (xs.length : Int) = (xx + ((st + 1 : Nat) : Int)) % (xs.length : Int) := by
                  rw [show xx + ((st + 1 : Nat) : Int) = xx + st + 1 by omega]
                  exact succ_congr (Int.emod_emod_of_dvd _ (Int.dvd_refl _))
                rw [← e5]
                rfl
            | true =>
              refine iteF ⟨_, rfl, _, rfl, rfl, _, rfl, ifT hne ?_⟩
              refine kr ht fun hw => ?_
              have := hw (gap ds (i : Int) - st).toNat (by omega)
              rw [E_congr (show ((i : Int) - ((gap ds (i : Int) - st).toNat : Int)) % (ds.length : Int) = (xx + st) % ds.length by
                have := walk_at hpos (i : Int) st
                rw [hh] at this
                rw [this]
                congr 1
                omega)] at this
              exact this e3
    refine ⟨_, pss_cons (ps_set (i := 2) scLLaw.nd rfl (Or.inr rfl) (pe_callB call_len_seq (by rfl) T.len PySem.boot_len (pa_cons (pv 0) pa_nil)))
      (pss_cons (ps_set (i := 3) scLLaw.nd rfl (Or.inr rfl) pe_dnewK)
      (pss_cons (ps_for PassesOwn.never rfl (pi_range1 (by rfl) T.range (pa_cons (pv 2) pa_nil)) (pg_name (i := 4) scLLaw.nd rfl (Or.inl rfl))
        (pss_cons (ps_if (PW.pt (pw_and (pt_cmpR (op_eqD hu64) (pe_ix ix_tup (pv 0) (pv 4) (fun _ _ => rfl)) pe_str (by rfl)) (pw_and1 (pt_cmpR op_ne (pv 1) pe_str (nomark _))))) (pss_one (ps_ret pe_bl)) pss_nil) p3)) p2)), ?_⟩
    obtain ⟨hop, hpos⟩ := ring_open hring
    obtain ⟨a, xs, rfl, sq, dp⟩ := dp_tup hd
    have hxl := dp.length
    refine ⟨_, rfl, a, xs, rfl, .inr sq, fun d hd0 => ?_⟩
    refine ⟨_, rfl, (xs.length : Int), rfl, by omega, by omega, for_range (n := xs.length) (fun i σ H' => (∃ x4 x5 x6, σ = [some (.ref a), some (.str x), some (.int (xs.length : Nat)), some (.ref d), x4, x5, x6, none]) ∧ Same H H' ∧ H' d = some (.dK (fdOf ds (fdK ds i))) ∧ (x ≠ "stones" → ∀ r : Nat, r < i → stoneD (row ds (r : Int)) = false) ∧ ∀ r : Nat, r < i → isT (row ds (r : Int)) = true → WalkOk ds (r : Int)) ⟨⟨_, _, _, rfl⟩, same_upd hd0, upd_same, fun _ r hr => absurd hr (Nat.not_lt_zero r), fun r hr => absurd hr (Nat.not_lt_zero r)⟩ ?_ ?_⟩
    · rintro i σ H' hi ⟨⟨x4, x5, x6, rfl⟩, s1, hdk, hst, hwk⟩
      have hi2 : i < ds.length := by omega
      obtain ⟨v1, hv1, dv1⟩ := dp.get (row_get? hi2)
      have hv0 : atI xs (0 + (i : Int)) = some v1 := by rw [Int.zero_add]; exact atI_nat hv1
      have hrow : rowD (row ds (i : Int)) = true := List.all_eq_true.mp (ring_rows hring) _ (row_mem hpos _)
      have hsh : SeqAt.shaped (row ds (i : Int)) = true := by
        obtain ⟨z1, z2⟩ := row_shape hrow
        unfold SeqAt.shaped
        rw [z1, Bool.true_and]
        exact decide_eq_true (Nat.le_trans z2 (by decide))
      refine ⟨_, rfl, _, rfl, a, xs, _, v1, rfl, rfl, s1.sqT sq, hv0, row ds (i : Int), .str "stone", dv1.keep s1, .str _, hsh, (by kernel_rfl), _, rfl, ?_⟩
      rw [eqv_stone]
      have go : ∀ D : Ends, D.rt = Q → D.nx = (fun σ H' => (∃ x4 x5 x6, σ = [some (.ref a), some (.str x), some (.int (xs.length : Nat)), some (.ref d), x4, x5, x6, none]) ∧ Same H H' ∧ H' d = some (.dK (fdOf ds (fdK ds (i + 1)))) ∧ (x ≠ "stones" → ∀ r : Nat, r < i + 1 → stoneD (row ds (r : Int)) = false) ∧ ∀ r : Nat, r < i + 1 → isT (row ds (r : Int)) = true → WalkOk ds (r : Int)) → (x ≠ "stones" → stoneD (row ds (i : Int)) = false) → t3 D [some (.ref a), some (.str x), some (.int (xs.length : Nat)), some (.ref d), some (.int (0 + (i : Int))), x5, x6, none] H' := fun D er en hs => q3 D a d xs i x5 x6 H' hi2 sq dp s1 hd0 hdk
        (fun y5 y6 H2 s2 h2 hw => en ▸ ⟨⟨_, _, _, rfl⟩, s2, h2, fun hx2 r hr => (by
          rcases Nat.lt_or_ge r i with z | z
          · exact hst hx2 r z
          · have e : r = i := by omega
            subst e
            exact hs hx2), fun r hr ht => (by
          rcases Nat.lt_or_ge r i with z | z
          · exact hwk r z ht
          · have e : r = i := by omega
            subst e
            exact hw ht)⟩)
        (fun ht hnw => er ▸ k false H' ⟨fun z => (nomatch z), fun z => by
          have hR : Reached ds := by
            by_cases c : x = "stones"
            · exact z.1 c
            · exact (z.2 c).2.1
          exact absurd ((reached_nat hpos).mp hR i hi2 ht) hnw⟩ s1)
      cases hs : stoneD (row ds (i : Int)) with
      | false => exact iteF (go _ rfl rfl fun _ => hs)
      | true =>
        refine iteT ⟨_, rfl, rfl, _, rfl, ?_⟩
        by_cases c : x = "stones"
        · refine ifF (by rw [c, decide_eq_true rfl]; rfl) ?_
          exact go _ rfl rfl fun z => absurd c z
        · refine ifT (by rw [decide_eq_false (fun z => c (V.str.inj z))]; rfl) ?_
          refine k false H' ⟨fun z => (nomatch z), fun z => ?_⟩ s1
          have := (z.2 c).1 (i : Int)
          rw [hs] at this
          cases this
    · rintro σ H' ⟨⟨x4, x5, x6, rfl⟩, s1, hdk, hst, hwk⟩
      rw [hxl] at hdk hst hwk
      have := q2 a d x4 x5 x6 none H' s1 hd0 hdk (fun hx2 r => ?_) ((reached_nat hpos).mpr hwk)
      · rw [← hxl] at this
        exact this
      · obtain ⟨e, hl2⟩ := ix_ok hpos r
        have := hst hx2 _ hl2
        rw [e, row_mod] at this
        exact this
end
end K40

namespace L2
open PySem PySem.Spec PyProof.Rows
section
variable {K : PySem.W.Frag} {H : Hp} {Q : VK}
theorem tup_ok {vs : List V} {ds : List PyData} (h : DpAll K H vs ds) (hl : vs.length ≤ 2000) (k : ∀ v H', Same H H' → Dp K H' v (.tuple ds) → Q v H') : vs.length ≤ sizeLine ∧ ∀ p, H p = none → Q (.ref p) (upd H p (.tup vs)) :=
  ⟨Nat.le_trans hl (by decide), fun p hp => k _ _ (same_upd hp) (.tup (SqT.of upd_same) (DpAll.keep (same_upd hp) h))⟩
theorem lst_ok {vs : List V} {ds : List PyData} (h : DpAll K H vs ds) (hl : vs.length ≤ 2000) (k : ∀ v H', Same H H' → Dp K H' v (.list ds) → Q v H') : vs.length ≤ sizeLine ∧ ∀ p, H p = none → Q (.ref p) (upd H p (.lst vs)) :=
  ⟨Nat.le_trans hl (by decide), fun p hp => k _ _ (same_upd hp) (.lst (SqL.of upd_same) (DpAll.keep (same_upd hp) h))⟩
theorem catA_ok {x y : V} {dx dy : List PyData} (hx : Dp K H x (.tuple dx)) (hy : Dp K H y (.tuple dy)) (hl : dx.length + dy.length ≤ 2000) (k : ∀ v H', Same H H' → Dp K H' v (.tuple (dx ++ dy)) → Q v H') : rCatA K x y H Q := by
  obtain ⟨a, xs, rfl, qx, px⟩ := K40.dp_tup hx
  obtain ⟨b, ys, rfl, qy, py⟩ := K40.dp_tup hy
  have l1 := px.length
  have l2 := py.length
  refine ⟨a, b, xs, ys, rfl, rfl, qx, qy, Nat.le_trans (by omega) (by decide : 2000 ≤ sizeLine), fun e => ?_, fun _ e => ?_, fun _ _ p hp => ?_⟩
  · subst e
    cases px
    exact k _ _ (Same.refl _) hy
  · subst e
    cases py
    rw [← List.append_nil dx] at hx
    exact k _ _ (Same.refl _) hx
  · exact k _ _ (same_upd hp) (.tup (SqT.of upd_same) (DpAll.keep (same_upd hp) (K40.DpAll.append px py)))
theorem cutV_all {xs : List V} {lo hi : Option Int} (h : HT.sIx xs.length 0 lo = 0 ∧ HT.sIx xs.length xs.length hi = xs.length) : cutV xs lo hi = xs := by
  unfold cutV
  rw [h.1, h.2, List.drop_zero, Nat.sub_zero, List.take_length]
theorem slA_ok {x : V} {dx ds : List PyData} {lo hi : Option Int} (hx : Dp K H x (.tuple dx)) (hc : ∀ xs, DpAll K H xs dx → DpAll K H (cutV xs lo hi) ds) (k : ∀ v H', Same H H' → Dp K H' v (.tuple ds) → Q v H') : rSlA K x lo hi H Q := by
  obtain ⟨a, xs, rfl, qx, px⟩ := K40.dp_tup hx
  have z := hc xs px
  refine ⟨a, xs, rfl, qx, fun e => ?_, fun _ p hp => ?_⟩
  · rw [cutV_all e] at z
    exact k _ _ (Same.refl _) (.tup qx z)
  · exact k _ _ (same_upd hp) (.tup (SqT.of upd_same) (DpAll.keep (same_upd hp) z))
end
end L2
namespace K40
open PySem PySem.Spec PyProof.Rows L2 Rg PySem.RingX
abbrev sSpoil : Stmt := top 36
/-! ### data that may be compared, with nothing in it that is unlike itself -/
structure Tame (d : D) : Prop where
  lay : d.canLay0 = true
  dep : d.depth ≤ 4
  rfl_ : PyData.eqv d d = true
theorem Tame.shaped {d : D} (t : Tame d) : SeqAt.shaped d = true := by
  unfold SeqAt.shaped
  rw [t.lay, Bool.true_and]
  exact decide_eq_true (Nat.le_trans t.dep (by decide))
theorem tame_all {n : Nat} : ∀ {ds : List D}, (∀ d ∈ ds, Tame d ∧ d.depth ≤ n) → PyData.canLayAll0 ds = true ∧ PyData.depthAll ds ≤ n ∧ PyData.eqvAll ds ds = true
  | [], _ => by simp [PyData.canLayAll0, PyData.depthAll, PyData.eqvAll]
  | d :: ds, h => by
    obtain ⟨h1, h2⟩ := h d List.mem_cons_self
    obtain ⟨h3, h4, h5⟩ := tame_all fun e he => h e (List.mem_cons_of_mem _ he)
    simp only [PyData.canLayAll0, PyData.depthAll, PyData.eqvAll, h1.lay, h1.rfl_, h3, h5, Bool.and_self, true_and, and_true]
    omega
theorem tame_tup {ds : List D} (h : ∀ d ∈ ds, Tame d ∧ d.depth ≤ 3) : Tame (.tuple ds) := by
  obtain ⟨h1, h2, h3⟩ := tame_all h
  refine ⟨?_, ?_, ?_⟩
  · simp only [PyData.canLay0, h1]
  · simp only [PyData.depth]; omega
  · simp only [PyData.eqv, h3]
theorem tame_lst {ds : List D} (h : ∀ d ∈ ds, Tame d ∧ d.depth ≤ 3) : Tame (.list ds) := by
  obtain ⟨h1, h2, h3⟩ := tame_all h
  refine ⟨?_, ?_, ?_⟩
  · simp only [PyData.canLay0, h1]
  · simp only [PyData.depth]; omega
  · simp only [PyData.eqv, h3]
theorem tame_row {d : D} (h : rowD d = true) : Tame d ∧ d.depth ≤ 3 := by
  obtain ⟨h1, h2⟩ := row_shape h
  refine ⟨⟨h1, by omega, ?_⟩, by omega⟩
  cases ht : isT d with
  | true =>
    obtain ⟨k, x, m, rfl, _⟩ := item_parts (row_item h ht)
    simp [PyData.eqv, PyData.eqvAll]
  | false => cases d <;> simp [PyData.eqv, isT, rowD, emp, stoneD, itemD] at h ht ⊢
theorem tame_ring {ds : List D} (h : ds.all rowD = true) : Tame (.tuple ds) := tame_tup fun d hd => tame_row (List.all_eq_true.mp h d hd)
/-- values that are no rows -/
def oddL : List D := [.tuple [.int 1, .int 2], .tuple [.int 1, .int (-1), .int 3], .tuple [.bool true, .int 2, .int 3], .list [.int 1, .int 2, .int 3], .str "Stone", .int 0, .bool false, .tuple [.int 1, .int 2, .none], .tuple [.int 1, .bool true, .int 3]]
theorem odd_no {d : D} (h : d ∈ oddL) : rowD d = false ∧ Tame d ∧ d.depth ≤ 3 := by
  have : oddL.all (fun d => !rowD d && (d.canLay0 && (decide (d.depth ≤ 3) && PyData.eqv d d))) = true := by kernel_rfl
  have z := List.all_eq_true.mp this d h
  simp only [Bool.and_eq_true, Bool.not_eq_true', decide_eq_true_eq] at z
  exact ⟨z.1, ⟨z.2.1, by omega, z.2.2.2⟩, z.2.2.1⟩
end K40

namespace K40
open PySem PySem.Spec PyProof.Rows L2 Rg PySem.RingX
theorem cutA_hi {K : PySem.W.Frag} {H : Hp} {ds : List D} {t : Nat} (h : t ≤ ds.length) : ∀ xs, DpAll K H xs ds → DpAll K H (cutV xs none (some (t : Int))) (ds.take t) := fun xs d => by
  rw [cut_hi (by rw [d.length]; exact h)]
  exact DpAll.take t d
theorem cutA_lo {K : PySem.W.Frag} {H : Hp} {ds : List D} {t : Nat} (h : t ≤ ds.length) : ∀ xs, DpAll K H xs ds → DpAll K H (cutV xs (some (t : Int)) none) (ds.drop t) := fun xs d => by
  rw [cut_lo (by rw [d.length]; exact h)]
  exact DpAll.drop t d
section
variable {K : PySem.W.Frag} {H : Hp} {Q : VK}
theorem new_tup {vs : List V} {ds : List D} {p : Addr} (h : DpAll K H vs ds) (hp : H p = none) : Dp K (upd H p (.tup vs)) (.ref p) (.tuple ds) := .tup (SqT.of upd_same) (DpAll.keep (same_upd hp) h)
theorem new_lst {vs : List V} {ds : List D} {p : Addr} (h : DpAll K H vs ds) (hp : H p = none) : Dp K (upd H p (.lst vs)) (.ref p) (.list ds) := .lst (SqL.of upd_same) (DpAll.keep (same_upd hp) h)
@[irreducible] def rListOf (K : PySem.W.Frag) : List V → Hp → VK → Prop := fun xs H Q => ∃ p ys, xs = [.ref p] ∧ (SqL K H p ys ∨ SqT K H p ys) ∧ ∀ l, H l = none → Q (.ref l) (upd H l (.lst ys))
theorem call_listof {X : Cx} : CallR X (.type "list") (rListOf X.K) := by
  unfold rListOf
  exact call_list_of
theorem listof_ok {x : V} {ds : List D} (hx : Dp K H x (.tuple ds)) (k : ∀ v H', Same H H' → Dp K H' v (.list ds) → Q v H') : rListOf K [x] H Q := by
  unfold rListOf
  obtain ⟨a, xs, rfl, qx, px⟩ := dp_tup hx
  exact ⟨a, xs, rfl, .inr qx, fun l hl => k _ _ (same_upd hl) (.lst (SqL.of upd_same) (DpAll.keep (same_upd hl) px))⟩
theorem ixL_ok {x : V} {ls : List D} {r : Int} (hx : Dp K H x (.list ls)) (h0 : 0 ≤ r) (h1 : r < ls.length) (k : ∀ v d, d ∈ ls → Dp K H v d → Q v H) : rIxL K x (.int r) H Q := by
  cases hx with
  | lst q p =>
    obtain ⟨n, rfl⟩ : ∃ n : Nat, r = (n : Int) := ⟨r.toNat, by omega⟩
    have hn : n < ls.length := by omega
    obtain ⟨v, hv, dv⟩ := p.get (List.getElem?_eq_getElem hn)
    exact ⟨_, _, _, v, rfl, rfl, q, atI_nat hv, k v _ (List.getElem_mem hn) dv⟩
end
section
variable {P : Program} {w : World} {K : PySem.W.Frag} {mg : Str → Option Value} {base : Heap}
def spSpoil (K : PySem.W.Frag) : Sp := fun vs H Q _ => ∃ (b c : Addr) (vr : V) (ds : List D) (ns : List Int) (ct : Int), vs = [.ref b, vr] ∧ BagAt H b c ns ct ∧ Dp K H vr (.tuple ds) ∧ ringL ds = true ∧ ds.length ≤ 12 ∧ 0 ≤ ct ∧ ct < 900000 ∧ ns.length < 1000 ∧
  ∀ (v : V) (d : D) (H' : Hp), Dp K H' v d → ringD d = false → Tame d → Short d → BagAt H' b c ns (ct + 3) → SameBut b H H' → Q v H'
theorem scSpoil : FnScope ["bag", "ring", "at", "odd", "full", "twice", "k"] ["bag", "ring"] (defScope sSpoil) := ⟨rfl, rfl, rfl, by decide +kernel, rfl, by decide +kernel, by decide +kernel⟩
theorem ok_spoil (R : Raw K mg "_law_spoiled" sSpoil ["bag", "ring"]) (T : GT mg) (T2 : GT2 mg) (DD : DDraw P w K mg base) : Def P w K mg base CX0 "_law_spoiled" 2 ["bag", "ring"] (spSpoil K) := by
  obtain ⟨fD, dD, GD, gD, kD, bD⟩ := DD
  refine R.def fun f fd F => F.ok scSpoil (fun vs H Q E h => ?_) (fun cdv A outer s H vs Q E hr h => ?_)
  · obtain ⟨b, c, vr, ds, ns, ct, rfl, _⟩ := h
    rfl
  · obtain ⟨b, c, vr, ds, ns, ct, rfl, B, dr, hring, hl, hct, hct2, hns, k⟩ := h
    -- the last return
    obtain ⟨t2, p2, q2⟩ : ∃ t2, PSs (cxOf CX0 P w K mg base ["bag", "ring", "at", "odd", "full", "twice", "k"] "_law_spoiled" (defScope sSpoil) f cdv A outer s H E).nox ((defBody sSpoil).drop 5) t2 ∧
        ∀ (vr vo vf vt : V) (dv : D) (fs tw : List D) (x6 : Option V) (t : Nat) (H1 : Hp), Dp K H1 vr (.tuple ds) → Dp K H1 vo dv → dv ∈ oddL → Dp K H1 vf (.tuple fs) → Dp K H1 vt (.tuple tw) → t ≤ ds.length → ringL fs = false → Tame (.tuple fs) → fs.length ≤ 20 → ringL tw = false → Tame (.tuple tw) → tw.length ≤ 20 →
          BagAt H1 b c ns (ct + 2) → SameBut b H H1 → t2 { nx := fun _ H' => Q .non H', rt := Q } [some (.ref b), some vr, some (.int (t : Nat)), some vo, some vf, some vt, x6] H1 := by
      refine ⟨_, pss_one (ps_ret (pe_ix ix_list (pe_lst
          (pa_cons (pe_op op_catA (pe_op op_catA (pe_slice sl_tupA (pv 1) po_none (po_some (pv 2))) (pe_tup (pa_cons (pv 3) pa_nil))) (pe_slice sl_tupA (pv 1) (po_some (pv 2)) po_none))
          (pa_cons (pe_callTy call_listof (by rfl) T2.list (by decide +kernel) (pa_cons (pv 1) pa_nil))
          (pa_cons (pe_tup pa_nil) (pa_cons (pv 4) (pa_cons (pv 5) (pa_cons pe_str (pa_cons pe_non (pa_cons pe_int pa_nil)))))))))
        (pe_call GD hr (by rfl) gD kD bD .nil pass0 (pa_cons (pv 0) (pa_cons pe_int pa_nil))) (fun _ _ => rfl))), ?_⟩
      intro vr vo vf vt dv fs tw x6 t H1 hr1 ho hodd hf hw ht f1 f2 f3 w1 w2 w3 B1 s1
      obtain ⟨o1, o2, o3⟩ := odd_no hodd
      refine ⟨_, rfl, _, rfl, _, rfl, slA_ok hr1 (cutA_hi ht) fun v1 Ha sa d1 => ⟨_, rfl, tup_ok (.cons (ho.keep sa) .nil) (by show 1 ≤ 2000; decide) fun v2 Hb sb d2 => catA_ok (d1.keep sb) d2 (by rw [List.length_take]; show _ + 1 ≤ 2000; omega) fun v3 Hc sc d3 => ?_⟩⟩
      have s3 := (sa.trans sb).trans sc
      refine ⟨_, rfl, _, rfl, _, rfl, slA_ok (hr1.keep s3) (cutA_lo ht) fun v4 Hd sd d4 => catA_ok (d3.keep sd) d4 (by rw [List.length_append, List.length_take, List.length_drop]; show _ + 1 + _ ≤ 2000; omega) fun v5 He se d5 => ?_⟩
      have s5 := (s3.trans sd).trans se
      refine ⟨_, rfl, listof_ok (hr1.keep s5) fun v6 Hf sf d6 => ?_⟩
      refine ⟨(by show 0 ≤ sizeLine; decide), fun p7 hp7 => ?_⟩
      have sg := same_upd (o := .tup []) hp7
      have d7 : Dp K _ (.ref p7) (.tuple []) := new_tup .nil hp7
      have s7 := (s5.trans sf).trans sg
      have d8' := DpAll.cons ((d5.keep sf).keep sg) (.cons (d6.keep sg) (.cons d7 (.cons (hf.keep s7) (.cons (hw.keep s7) (.cons (.str "stone") (.cons .non (.cons (.int 7) .nil)))))))
      refine ⟨_, rfl, _, rfl, (by show 8 ≤ sizeLine; decide), fun p8 hp8 => ?_⟩
      have d8 := new_lst d8' hp8
      have sh := same_upd (o := .lst [v5, v6, .ref p7, vf, vt, .str "stone", .non, .int 7]) hp8
      have s8 := s7.trans sh
      refine ⟨_, rfl, b, c, 8, ns, _, rfl, B1.keep s8, by omega, by omega, by decide, by decide, hns, fun r H2 hr0 hr8 B2 s2 => ?_⟩
      refine ixL_ok (d8.keepD ((B1.keep s8).ext s2)) hr0 hr8 fun v d hd dd => ?_
      have lrow : ∀ e ∈ ds, Tame e ∧ e.depth ≤ 3 := fun e he => tame_row (List.all_eq_true.mp (ring_rows hring) e he)
      have good : ringD d = false ∧ Tame d ∧ Short d := by
        simp only [List.mem_cons, List.not_mem_nil, or_false] at hd
        rcases hd with e | e | e | e | e | e | e | e <;> subst e
        · refine ⟨?_, tame_tup fun e he => ?_, fun ds' e' => ?_⟩
          · show ringL _ = false
            unfold ringL
            rw [List.all_append, List.all_append, List.all_cons, o1]
            simp
          · rcases List.mem_append.mp he with z | z
            · rcases List.mem_append.mp z with z | z
              · exact lrow e (List.mem_of_mem_take z)
              · rw [List.mem_singleton.mp z]; exact ⟨o2, o3⟩
            · exact lrow e (List.mem_of_mem_drop z)
          · cases e'
            rw [List.length_append, List.length_append, List.length_take, List.length_drop]
            show _ + 1 + _ ≤ 1000
            omega
        · exact ⟨rfl, tame_lst lrow, fun _ e => nomatch e⟩
        · exact ⟨by kernel_rfl, tame_tup (fun _ h => nomatch h), fun ds' e' => by cases e'; exact Nat.zero_le _⟩
        · exact ⟨f1, f2, fun ds' e' => by cases e'; omega⟩
        · exact ⟨w1, w2, fun ds' e' => by cases e'; omega⟩
        · exact ⟨rfl, (tame_row (by kernel_rfl)).1, fun _ e => nomatch e⟩
        · exact ⟨rfl, (tame_row (by kernel_rfl)).1, fun _ e => nomatch e⟩
        · exact ⟨rfl, ⟨rfl, by simp [PyData.depth], by simp [PyData.eqv]⟩, fun _ e => nomatch e⟩
      refine k v d H2 dd good.1 good.2.1 good.2.2 ?_ ((s1.trans (SameBut.of s8)).trans s2)
      rw [show ct + 3 = ct + 2 + 1 by omega]
      exact B2
    refine ⟨_, pss_cons (ps_set (i := 2) scSpoil.nd rfl (Or.inl rfl) (pe_call GD hr (by rfl) gD kD bD .nil pass0 (pa_cons (pv 0) (pa_cons (pe_op op_add (pe_callB call_len_seq (by rfl) T.len PySem.boot_len (pa_cons (pv 1) pa_nil)) pe_int) pa_nil))))
      (pss_cons (ps_set (i := 3) scSpoil.nd rfl (Or.inl rfl) (pe_lst
          (pa_cons (pe_tup (pa_cons pe_int (pa_cons pe_int pa_nil)))
          (pa_cons (pe_tup (pa_cons pe_int (pa_cons (pe_un un_neg pe_int) (pa_cons pe_int pa_nil))))
          (pa_cons (pe_tup (pa_cons pe_bl (pa_cons pe_int (pa_cons pe_int pa_nil))))
          (pa_cons (pe_lst (pa_cons pe_int (pa_cons pe_int (pa_cons pe_int pa_nil))))
          (pa_cons pe_str (pa_cons pe_int (pa_cons pe_bl
          (pa_cons (pe_tup (pa_cons pe_int (pa_cons pe_int (pa_cons pe_non pa_nil))))
          (pa_cons (pe_tup (pa_cons pe_int (pa_cons pe_bl (pa_cons pe_int pa_nil)))) pa_nil)))))))))))
      (pss_cons (ps_set (i := 3) scSpoil.nd rfl (Or.inl rfl) (pe_ix ix_list (pv 3) (pe_call GD hr (by rfl) gD kD bD .nil pass0 (pa_cons (pv 0) (pa_cons pe_int pa_nil))) (fun _ _ => rfl)))
      (pss_cons (ps_set (i := 4) scSpoil.nd rfl (Or.inl rfl) (pe_tupleOf (by rfl) T.tup (pe_lc (own := [("k", 6)]) (g := gName 6) (tt := tYes)
            (te := tIf (tTest (tOp (fun x y H Q => y = .non ∧ Q (.bl (decide (x = .non))) H) (tOp (rIxT K) (tVar 1) (tVar 6)) (tC .non))) (tTup (tCons (tOp (rI0 fun i j => .int (i + j)) (tC (.int 900)) (tVar 6)) (tCons (tC (.int 4)) (tCons (tC (.int 5)) tNil)))) (tOp (rIxT K) (tVar 1) (tVar 6)))
            rfl scSpoil.nd (pi_range1 (by rfl) T.range (pa_cons (pe_callB call_len_seq (by rfl) T.len PySem.boot_len (pa_cons (pv 1) pa_nil)) pa_nil)) (blkOk_by (own := [("k", 6)]) (N := ["bag", "ring", "at", "odd", "full", "twice", "k"]) (sc := defScope sSpoil) (by decide +kernel))
            (fun _ _ _ _ _ => pg_name (i := 6) scSpoil.nd rfl (Or.inl rfl)) (fun _ _ _ _ _ => pts_nil)
            (fun _ _ _ _ _ => pe_ifExp (pt_cmpR op_isN (pe_ix (show IxR _ (rIxT K) from ix_tup) (pv 1) (pv 6) (fun _ _ => rfl)) pe_non (nomark _)) (pe_tup (pa_cons (pe_op op_add pe_int (pv 6)) (pa_cons pe_int (pa_cons pe_int pa_nil)))) (pe_ix (show IxR _ (rIxT K) from ix_tup) (pv 1) (pv 6) (fun _ _ => rfl))))))
      (pss_cons (ps_set (i := 5) scSpoil.nd rfl (Or.inl rfl) (pe_op op_catA (pv 1) (pe_tup (pa_cons (pe_tup (pa_cons pe_int (pa_cons pe_int (pa_cons pe_int pa_nil)))) (pa_cons (pe_tup (pa_cons pe_int (pa_cons pe_int (pa_cons pe_int pa_nil)))) pa_nil))))) p2)))), ?_⟩
    obtain ⟨a, xs, rfl, sq, dp⟩ := dp_tup dr
    have hxl := dp.length
    refine ⟨_, rfl, _, rfl, a, xs, rfl, .inr sq, _, _, rfl, rfl, b, c, _, ns, ct, rfl, B, hct, by omega, by omega, by omega, hns, fun r1 H1 hr10 hr11 B1 s1 => ?_⟩
    have dr1 := dr.keepD (B.ext s1)
    -- odd
    refine ⟨(by show 2 ≤ sizeLine; decide), fun p1 hp1 => ⟨_, rfl, (by show 3 ≤ sizeLine; decide), fun p2 hp2 => ⟨(by show 3 ≤ sizeLine; decide), fun p3 hp3 => ⟨(by show 3 ≤ sizeLine; decide), fun p4 hp4 => ⟨(by show 3 ≤ sizeLine; decide), fun p8 hp8 => ⟨(by show 3 ≤ sizeLine; decide), fun p9 hp9 => ⟨(by show 9 ≤ sizeLine; decide), fun po hpo => ?_⟩⟩⟩⟩⟩⟩⟩
    have d1 : Dp K _ (.ref p1) (.tuple [.int 1, .int 2]) := new_tup (.cons (.int 1) (.cons (.int 2) .nil)) hp1
    have d2 : Dp K _ (.ref p2) (.tuple [.int 1, .int (-1), .int 3]) := new_tup (.cons (.int 1) (.cons (.int (-1)) (.cons (.int 3) .nil))) hp2
    have d3 : Dp K _ (.ref p3) (.tuple [.bool true, .int 2, .int 3]) := new_tup (.cons (.bl true) (.cons (.int 2) (.cons (.int 3) .nil))) hp3
    have d4 : Dp K _ (.ref p4) (.list [.int 1, .int 2, .int 3]) := new_lst (.cons (.int 1) (.cons (.int 2) (.cons (.int 3) .nil))) hp4
    have d8 : Dp K _ (.ref p8) (.tuple [.int 1, .int 2, .none]) := new_tup (.cons (.int 1) (.cons (.int 2) (.cons .non .nil))) hp8
    have d9 : Dp K _ (.ref p9) (.tuple [.int 1, .bool true, .int 3]) := new_tup (.cons (.int 1) (.cons (.bl true) (.cons (.int 3) .nil))) hp9
    have e1 := same_upd (o := .tup [V.int 1, V.int 2]) hp1
    have e2 := same_upd (o := .tup [V.int 1, V.int (-1), V.int 3]) hp2
    have e3 := same_upd (o := .tup [V.bl true, V.int 2, V.int 3]) hp3
    have e4 := same_upd (o := .lst [V.int 1, V.int 2, V.int 3]) hp4
    have e8 := same_upd (o := .tup [V.int 1, V.int 2, V.non]) hp8
    have e9 := same_upd (o := .tup [V.int 1, V.bl true, V.int 3]) hp9
    have dodd : Dp K _ (.ref po) (.list oddL) := new_lst (.cons ((((((d1.keep e2).keep e3).keep e4).keep e8)).keep e9) (.cons ((((d2.keep e3).keep e4).keep e8).keep e9) (.cons (((d3.keep e4).keep e8).keep e9) (.cons ((d4.keep e8).keep e9) (.cons (.str "Stone") (.cons (.int 0) (.cons (.bl false) (.cons (d8.keep e9) (.cons d9 .nil))))))))) hpo
    have so := same_upd (o := .lst [.ref p1, .ref p2, .ref p3, .ref p4, .str "Stone", .int 0, .bl false, .ref p8, .ref p9]) hpo
    have sA := (((((e1.trans e2).trans e3).trans e4).trans e8).trans e9).trans so
    have BA := B1.keep sA
    refine ⟨_, rfl, _, rfl, b, c, 9, ns, _, rfl, BA, by omega, by omega, by decide, by decide, hns, fun r2 H2 hr20 hr21 B2 s2 => ?_⟩
    refine ixL_ok (dodd.keepD (BA.ext s2)) hr20 hr21 fun vo dv hodd hvo => ?_
    have dr2 := (dr1.keep sA).keepD (BA.ext s2)
    have s02 : SameBut b H H2 := (s1.trans (SameBut.of sA)).trans s2
    -- full
    have e02 : ExtD H H2 := ((B.ext s1).trans (ExtD.of sA)).trans (BA.ext s2)
    have sq2 := e02.sqT sq
    have dp2 := DpAll.keepD e02 dp
    refine ⟨_, rfl, a, xs, rfl, .inr sq2, (xs.length : Int), rfl, by omega, by omega, fun L hL => lc_range (n := xs.length) (fun i H' => Same H2 H' ∧ ∃ ys fs, H' L = some (.lst ys) ∧ DpAll K (del H' L) ys fs ∧ fs.length = i ∧ (∀ d ∈ fs, Tame d ∧ d.depth ≤ 3) ∧ fs.any emp = false) ⟨same_upd hL, [], [], upd_same, .nil, rfl, (fun _ h => nomatch h), rfl⟩ ?_ ?_⟩
    · rintro i H3 hi ⟨s3, ys, fs, hys, dys, hfl, htm, hem⟩
      have hi2 : i < ds.length := by omega
      obtain ⟨v1, hv1, dv1⟩ := dp2.get (row_get? hi2)
      have hv0 : atI xs (0 + (i : Int)) = some v1 := by rw [Int.zero_add]; exact atI_nat hv1
      have ylen := dys.length
      have hrow : rowD (row ds (i : Int)) = true := List.all_eq_true.mp (ring_rows hring) _ (row_mem (ring_open hring).2 _)
      have add : ∀ (v : V) (d : D) (H4 : Hp), Same H3 H4 → Dp K (del H4 L) v d → rowD d = true → emp d = false → ∃ acc, H4 L = some (.lst acc) ∧ acc.length < sizeLine ∧ (Same H2 (upd H4 L (.lst (acc ++ [v]))) ∧ ∃ ys fs, (upd H4 L (.lst (acc ++ [v]))) L = some (.lst ys) ∧ DpAll K (del (upd H4 L (.lst (acc ++ [v]))) L) ys fs ∧ fs.length = i + 1 ∧ (∀ d ∈ fs, Tame d ∧ d.depth ≤ 3) ∧ fs.any emp = false) := fun v d H4 s4 dv hd he => by
        refine ⟨ys, s4 _ _ hys, by rw [sizeLine_eq]; omega, (s3.trans s4).updl hL, ys ++ [v], fs ++ [d], upd_same, ?_, by rw [List.length_append, hfl]; rfl, fun d' hd' => ?_, by rw [List.any_append, hem]; simp [he]⟩
        · rw [del_upd]
          exact DpAll.snoc (DpAll.keep s4.del dys) dv
        · rcases List.mem_append.mp hd' with z | z
          · exact htm d' z
          · rw [List.mem_singleton.mp z]; exact tame_row hd
      refine ⟨rfl, _, rfl, _, rfl, a, xs, _, v1, rfl, rfl, s3.sqT sq2, hv0, rfl, _, rfl, ?_⟩
      rw [dp_emp dv1]
      cases he : emp (row ds (i : Int)) with
      | true =>
        refine iteT ⟨_, rfl, _, _, rfl, rfl, (by show 3 ≤ sizeLine; decide), fun t ht => ?_⟩
        have nt : L ≠ t := ne_of_none hys ht
        refine add _ (.tuple [.int (900 + (0 + (i : Int))), .int 4, .int 5]) _ (same_upd ht) (.tup (SqT.of ((del_ne nt.symm).trans upd_same)) (.cons (.int _) (.cons (.int _) (.cons (.int _) .nil)))) rfl rfl
      | false =>
        refine iteF ⟨_, rfl, _, rfl, a, xs, _, v1, rfl, rfl, s3.sqT sq2, hv0, ?_⟩
        exact add v1 _ H3 (Same.refl _) (dv1.keep (s3.todel hL)) hrow he
    · rintro H3 ⟨s3, ys, fs, hys, dys, hfl, htm, hem⟩
      refine .inl ⟨L, ys, rfl, SqL.of hys, fun q hq => ?_⟩
      have dfull : Dp K _ (.ref q) (.tuple fs) := new_tup (DpAll.keep same_del dys) hq
      have s4 := s3.trans (same_upd (o := .tup ys) hq)
      -- twice
      refine ⟨_, rfl, (by show 3 ≤ sizeLine; decide), fun u1 hu1 => ⟨(by show 3 ≤ sizeLine; decide), fun u2 hu2 => ⟨(by show 2 ≤ sizeLine; decide), fun u3 hu3 => ?_⟩⟩⟩
      have f1 : Dp K _ (.ref u1) (.tuple [.int 77, .int 1, .int 2]) := new_tup (.cons (.int 77) (.cons (.int 1) (.cons (.int 2) .nil))) hu1
      have f2 : Dp K _ (.ref u2) (.tuple [.int 77, .int 3, .int 4]) := new_tup (.cons (.int 77) (.cons (.int 3) (.cons (.int 4) .nil))) hu2
      have g1 := same_upd (o := .tup [V.int 77, V.int 1, V.int 2]) hu1
      have g2 := same_upd (o := .tup [V.int 77, V.int 3, V.int 4]) hu2
      have g3 := same_upd (o := .tup [V.ref u1, V.ref u2]) hu3
      have f3 : Dp K _ (.ref u3) (.tuple [.tuple [.int 77, .int 1, .int 2], .tuple [.int 77, .int 3, .int 4]]) := new_tup (.cons (f1.keep g2) (.cons f2 .nil)) hu3
      have s5 := s4.trans ((g1.trans g2).trans g3)
      refine catA_ok (dr2.keep s5) f3 (by show _ + 2 ≤ 2000; omega) fun vt Ht st dt => ?_
      have s6 := s5.trans st
      obtain ⟨t, et⟩ : ∃ t : Nat, r1 = (t : Int) := ⟨r1.toNat, by omega⟩
      subst et
      have lrow : ∀ e ∈ ds, Tame e ∧ e.depth ≤ 3 := fun e he => tame_row (List.all_eq_true.mp (ring_rows hring) e he)
      refine q2 (.ref a) vo (.ref q) vt dv fs _ none t Ht (dr2.keep s6) (hvo.keep s6) hodd (dfull.keep (((g1.trans g2).trans g3).trans st)) dt (by omega) ?_ (tame_tup htm) (by omega) ?_ (tame_tup fun e he => ?_) (by rw [List.length_append]; show _ + 2 ≤ 20; omega) ?_ (s02.trans (SameBut.of s6))
      · unfold ringL
        rw [hem]
        simp
      · have z : keysDiffer ((ds ++ [PyData.tuple [.int 77, .int 1, .int 2], PyData.tuple [.int 77, .int 3, .int 4]]).filter isT) = false := by
          unfold keysDiffer
          refine decide_eq_false fun nd => ?_
          rw [List.filter_append, List.map_append] at nd
          have := (List.nodup_append.mp nd).2.1
          revert this
          decide
        unfold ringL
        rw [z]
        simp
      · rcases List.mem_append.mp he with z | z
        · exact lrow e z
        · simp only [List.mem_cons, List.not_mem_nil, or_false] at z
          rcases z with e' | e' <;> rw [e'] <;> exact tame_row rfl
      · rw [show ct + 2 = ct + 1 + 1 by omega]
        exact B2.keep s6
end
end K40

/-! ## sorted() of a tuple of tuples of ints -/
namespace TupSort
open PySem PySem.Spec PyProof.Rows
section
variable {pr : Program} {w : World} {A : Around} {E : Value → Shared → Prop} {s : Shared}
/-- the heap behind collect of the items vs -/
abbrev got (h : Heap) (vs : List Value) : Heap := (h.push (seqObj "list" #[] 0)).update h.objs.size (Obj.mapSeq fun x => x ++ vs.toArray)
/-- the items of a tuple, collected -/
theorem collect_of {t : Addr} {vs : List Value} {Q : List Value → Shared → Prop} (ht : s.heap.IsTuple t vs.toArray) (hn : vs.length < 64) (h : Q vs { s with heap := got s.heap vs }) : wpAny (model pr w) A (collect (.ref t)) Q E s := by
  have fresh : (s.heap.push (seqObj "list" #[] 0)).get? s.heap.objs.size = some (seqObj "list" #[] 0) := Heap.get?_push_size _ rfl
  rcases ht with ⟨o, ho, hc, n, hd⟩
  have old := Heap.get?_push_of_some (seqObj "list" #[] 0) ho
  have room : ((#[] : Array Value) ++ vs.toArray).size ≤ sizeLine + 1 := by
    rw [sizeLine_eq, Array.size_append, List.size_toArray, List.size_toArray, List.length_nil]; omega
  unfold collect
  apply wpAny_bind
  apply wpAny_runValue
  apply codeAny_builtin entry_proto_collect'
  show wpAny _ _ (newList [] >>= fun r => again (.builtin "list.__iadd__" ⟨[r, .ref t], []⟩)) _ _ s
  apply wpAny_bind
  refine wpAny_newList ?_
  apply wpAny_pure
  constructor
  · exact Code.quiet_builtin _ (by decide +kernel)
  apply codeAny_builtin entry_list_iadd'
  change wpAny _ _ (Builtin.List.listExtendWith (.ref s.heap.objs.size) (.ref t) (.ref s.heap.objs.size)) _ _ { s with heap := _ }
  unfold Builtin.List.listExtendWith
  apply wpAny_bind
  refine wpAny_typeOf (T := "tuple") ⟨o, old, hc⟩ ?_
  have both : (Value.type "tuple" == Value.type "tuple") = true := rfl
  simp only [both, Bool.or_true, if_true]
  apply wpAny_bind
  apply listItems_at old hd
  apply wpAny_bind
  apply listItems_at fresh rfl
  rw [if_neg (by simp)]
  apply wpAny_bind
  refine listUpdate_at fresh rfl ?_ (Nat.zero_le _) room
  apply wpAny_pure
  change wpAny _ _ (load s.heap.objs.size >>= fun q => match q.data with | .seq xs _ => pure xs.toList | _ => unsupported "internal:collect") _ _ { s with heap := got s.heap vs }
  apply wpAny_bind
  apply wpAny_load (get?_update_seq fresh _)
  have same : ((#[] : Array Value) ++ vs.toArray).toList = vs := by simp
  change wpAny _ _ (pure ((#[] : Array Value) ++ vs.toArray).toList) _ _ _
  rw [same]
  exact wpAny_pure h
/-- two objects later, a tuple stands where it stood -/
theorem later {h : Heap} {vs : List Value} {b : Addr} {o : Obj} (e : h.get? b = some o) : ((got h vs).push (seqObj "list" vs.toArray 0)).get? b = some o := by
  have lt := Heap.lt_size e
  have size : (got h vs).objs.size = h.objs.size + 1 := by rw [Heap.size_update, size_push']
  rw [Heap.get?_push_ne _ _ _ (show b ≠ (got h vs).objs.size by rw [size]; exact Nat.ne_of_lt (Nat.lt_succ_of_lt lt)), Heap.get?_update_ne _ _ _ _ (Nat.ne_of_lt lt), Heap.get?_push_ne _ _ _ (Nat.ne_of_lt lt)]
  exact e
/-- sorted(t) -/
theorem sorted_of {t : Addr} {vs : List Value} {d : Nat} {B : Int} {Q : Value → Shared → Prop} (ht : s.heap.IsTuple t vs.toArray) (hn : vs.length < 64) (hd : 1 ≤ d) (ok : TS.TupsOk s.heap d B vs)
    (h : ∀ out : Array Value, out.toList.Perm vs → out.toList.Pairwise (fun a b => TS.code B (TS.intsOf s.heap a) ≤ TS.code B (TS.intsOf s.heap b)) → Q (.ref (s.heap.objs.size + 1)) { s with heap := sortedAll s.heap vs out }) : wpAny (model pr w) A (call (.builtin "sorted") [.ref t]) Q E s := by
  have size : (got s.heap vs).objs.size = s.heap.objs.size + 1 := by rw [Heap.size_update, size_push']
  have there : ((got s.heap vs).push (seqObj "list" vs.toArray 0)).get? (s.heap.objs.size + 1) = some (seqObj "list" vs.toArray 0) := size ▸ Heap.get?_push_size _ rfl
  apply Calls.call_function_entry kind_sorted plain_sorted entry_sorted (args_sorted1 _)
  unfold Builtin.«sorted»
  apply wpAny_bind (m := checkCount "sorted" 1 1 _)
  apply wpAny_pure
  apply wpAny_bind
  apply collect_of ht hn
  apply wpAny_bind
  refine wpAny_newList ?_ (by rw [sizeLine_eq]; omega)
  change wpAny _ _ _ _ _ { s with heap := (got s.heap vs).push (seqObj "list" vs.toArray 0) }
  rw [size]
  apply wpAny_bind
  apply wpAny_holding
  refine wpAny_call_entry slot_list_sort ⟨_, there, rfl⟩ entry_list_sort ?_ (args_list_sort _)
  refine TS.sort_tups there hn hd (ok.keeps fun b o e _ => later e) (fun v => TS.code B (TS.intsOf s.heap v)) (fun v hv ns q => ?_) fun out p o => ⟨_, rfl, wpAny_pure ⟨_, rfl, h out p o⟩⟩
  obtain ⟨ms, q0, _⟩ := ok v hv
  have one : ns = ms := (q.ints.symm).trans (q0.keeps fun b o e _ => later e).ints
  subst one
  show TS.code B (TS.intsOf s.heap v) = TS.code B ns
  rw [q0.ints]
end
end TupSort
namespace L2
open PySem PySem.Spec PyProof.Rows
section
variable {X : Cx}
/-- sorted(xs): a list or a tuple of tuples of d ints -/
def rSortA (K : PySem.W.Frag) (d : Nat) (B : Int) : List V → Hp → VK → Prop := fun vs H Q => ∃ (a : Addr) (xs : List V), vs = [V.ref a] ∧ (SqL K H a xs ∨ SqT K H a xs) ∧ xs.length < 64 ∧ (∀ x ∈ xs, ∃ ns, TupI K H x ns ∧ ns.length = d ∧ TS.Bd B ns) ∧
  ∀ (ys : List V) (p : Addr), ys.Perm xs → ys.Pairwise (fun x y => ∀ n m, TupI K H x n → TupI K H y m → TS.code B n ≤ TS.code B m) → H p = none → Q (.ref p) (upd H p (.lst ys))
theorem cr_sortA {d : Nat} {B : Int} (hd : 1 ≤ d) : CallR X (.builtin "sorted") (rSortA X.K d B) := by
  intro pins s σ H vs us Q I r ⟨a, xs, ev, hq, hn, hx, q⟩
  subst ev
  cases hq with
  | inl hq => exact cr_sortT hd pins s σ H _ us Q I r ⟨a, xs, rfl, hq, hn, hx, q⟩
  | inr hq =>
    obtain ⟨us', ru, tu, _⟩ := I.tuple hq
    have isRef : ∀ x ∈ xs, ∃ t, x = V.ref t := fun x m => let ⟨_, ⟨t, e, _⟩, _⟩ := hx x m; ⟨t, e⟩
    obtain ⟨exs, rus⟩ := bkV_refs ru isRef
    have nums : ∀ {u : Value} {n : List Int}, TupI X.K H (bkV u) n → TS.intsOf s.heap u = n := fun {u n} ⟨t, et, ht⟩ => by
      rw [bkV_ref et]
      exact (tupI_raw I ht).ints
    rw [Vals.ref1 r]
    refine TupSort.sorted_of (d := d) (B := B) tu (ru.length ▸ hn) hd (fun v hv => ?_) fun out perm ord => ?_
    · obtain ⟨t, rfl⟩ := rus v hv
      have m : V.ref t ∈ xs := exs ▸ List.mem_map.mpr ⟨_, hv, rfl⟩
      obtain ⟨ns, ⟨t2, e2, ht⟩, hl, hb⟩ := hx _ m
      cases e2
      exact ⟨ns, tupI_raw I ht, hl, hb⟩
    · obtain ⟨ep, at_⟩ := PyProof.Rows.sortedAll_at s.heap us' out
      have refs : ∀ u ∈ out.toList, ∃ b, u = Value.ref b := fun u hu => rus u (perm.mem_iff.mp hu)
      have pm : (out.toList.map bkV).Perm xs := exs ▸ perm.map bkV
      have small : (out.toList.map bkV).length ≤ sizeLine := Nat.le_trans (Nat.le_of_lt (pm.length_eq ▸ hn)) (by decide)
      have next : H (s.heap.objs.size + 1) = none := I.hok.fresh (Nat.le_succ _)
      refine ⟨.ref (s.heap.objs.size + 1), upd H (s.heap.objs.size + 1) (.lst (out.toList.map bkV)), ?_, rfl, q _ _ pm (List.pairwise_map.mpr (ord.imp fun le n m hn hm => ?_)) next⟩
      · exact I.laid (t' := s.toks) (fun _ _ => PyProof.Rows.sortedAll_old) (Nat.le_succ _) ⟨small, out.toList, ep, bkV_vals refs, at_⟩
      · rw [← nums hn, ← nums hm]
        exact le
/-- repr(b) -/
theorem call_repr_bool : CallR X (.builtin "repr") (fun xs H Q => ∃ b : Bool, xs = [.bl b] ∧ Q (.str (if b then "True" else "False")) H) := by
  intro pins s σ H xs us Q I r h
  obtain ⟨b, rfl, q⟩ := h
  obtain ⟨u, rfl, rx⟩ := vals1 r
  cases (show u = Value.bool b from rx)
  exact PySem.P.repr_of_bool ⟨.str _, H, I.tok _, ⟨_, rfl⟩, q⟩
/-- t != u, two tuples of the same items -/
def rNeS (K : PySem.W.Frag) (r : Bool) : R2 := fun x y H Q => ∃ (a b : Addr) (xs : List V), x = .ref a ∧ y = .ref b ∧ SqT K H a xs ∧ SqT K H b xs ∧ (∀ v ∈ xs, flatB v = true ∨ ∃ c, v = .ref c) ∧ Q (.bl r) H
theorem same_items {P : Program} {w : World} {A : Around} {s : Shared} : ∀ {xs : List V} {us ws : List Value}, (∀ v ∈ xs, flatB v = true ∨ ∃ c, v = .ref c) → Vals xs us → Vals xs ws → ∀ j (h1 : j < us.length) (h2 : j < ws.length), SeqAt.EqAt A s us[j] ws[j] true
  | _, _, _, _, .nil, _, _, h1, _ => absurd h1 (Nat.not_lt_zero _)
  | x :: xs, _, _, hv, .cons a1 b1, .cons a2 b2, j, h1, h2 => by
    cases j with
    | zero =>
      rcases hv x List.mem_cons_self with f | ⟨c, rfl⟩
      · exact eqAt_same a1 a2 f
      · cases (show _ = Value.ref c from a1)
        cases (show _ = Value.ref c from a2)
        exact SeqAt.EqAt.same _
    | succ j => exact same_items (P := P) (w := w) (fun v hm => hv v (List.mem_cons_of_mem _ hm)) b1 b2 j (Nat.lt_of_succ_lt_succ h1) (Nat.lt_of_succ_lt_succ h2)
theorem op_neS (hu : X.A.units < cLine) : OpR X (compareOp .NotEq) (rNeS X.K false) := by
  intro pins s σ H x y v u Q I rx ry h
  obtain ⟨a, b, xs, rfl, rfl, ha, hb, hv, q⟩ := h
  cases (show v = Value.ref a from rx)
  cases (show u = Value.ref b from ry)
  obtain ⟨us, r1, p1, _⟩ := I.tuple ha
  obtain ⟨ws, r2, p2, _⟩ := I.tuple hb
  have hl : us.length = ws.length := by rw [← r1.length, ← r2.length]
  refine SeqAt.RcNeAt.tuples (e := fun _ => true) p1 p2 hu (fun j h1 h2 => ?_) X.prog X.w _ _ ?_
  · have k := same_items (P := X.prog) (w := X.w) (A := X.A.in1) (s := s) hv r1 r2 j (by simpa using h1) (by simpa using h2)
    simpa using k
  · rw [show (!((List.range (min us.toArray.size ws.toArray.size)).all (fun _ => true) && us.toArray.size == ws.toArray.size)) = false by
      rw [List.size_toArray, List.size_toArray, hl]; simp]
    exact ⟨.bl false, H, I, rfl, q⟩
theorem op_eqS (hu : X.A.units < cLine) : OpR X (compareOp .Eq) (rNeS X.K true) := by
  intro pins s σ H x y v u Q I rx ry h
  obtain ⟨a, b, xs, rfl, rfl, ha, hb, hv, q⟩ := h
  cases (show v = Value.ref a from rx)
  cases (show u = Value.ref b from ry)
  obtain ⟨us, r1, p1, _⟩ := I.tuple ha
  obtain ⟨ws, r2, p2, _⟩ := I.tuple hb
  have hl : us.length = ws.length := by rw [← r1.length, ← r2.length]
  refine SeqAt.RcAt.tuples (e := fun _ => true) p1 p2 hu (fun j h1 h2 => ?_) X.prog X.w _ _ ?_
  · have k := same_items (P := X.prog) (w := X.w) (A := X.A.in1) (s := s) hv r1 r2 j (by simpa using h1) (by simpa using h2)
    simpa using k
  · rw [show (((List.range (min us.toArray.size ws.toArray.size)).all (fun _ => true) && us.toArray.size == ws.toArray.size)) = true by
      rw [List.size_toArray, List.size_toArray, hl]; simp]
    exact ⟨.bl true, H, I, rfl, q⟩
end
end L2

namespace L2
open PySem PySem.Spec PyProof.Rows
section
variable {P : Program} {w : World} {K : PySem.W.Frag} {mg : Str → Option Value} {base : Heap}
/-- a def by its body, its code object known -/
theorem Fun.okC {x qual : Str} {st : Stmt} {f c : Addr} {fd : FuncData} {N ps : List Str} {k : Nat} {sp : Sp} (F : Fun K x qual st f fd) (hc : fd.code = .ref c) (S : FnScope N ps (defScope st)) (len : ∀ vs H Q E, sp vs H Q E → vs.length = ps.length)
    (hbody : ∀ (A : Around) (outer : List Env) (s : Shared) (H : Hp) (vs : List V) (Q : VK) (E : XK), Room k (A.deeper (envOfC qual (defScope st) s.heap.objs.size f (.ref c))) → sp vs H Q E →
      ∃ t, PSs (cxOf CX0 P w K mg base N qual (defScope st) f (.ref c) A outer s H E).nox (defBody st) t ∧ t { nx := fun _ H' => Q .non H', rt := Q } (start N vs) H) : FnOk P w K mg base CX0 (k + 1) f fd ps sp := by
  obtain ⟨oc, od, kV, doc, pm, an, cdv, ct, osl, rfl, lk, hcd⟩ := F.ex
  have e : cdv = .ref c := hc
  subst e
  refine fn_of lk hcd S len fun A outer s H vs Q E hr hsp => ?_
  obtain ⟨t, h, q⟩ := hbody A outer s H vs Q E hr hsp
  exact ⟨t, h.nox, q⟩
end
end L2
namespace K40
open PySem PySem.Spec PyProof.Rows L2 Rg PySem.RingX
section
variable {X : Cx} {T : List (Addr × Str)} {c P CW CR fW fR : Addr} {k : Nat} {params : Arguments} {body : Expr} {scope : Scope} {t : XK → TE} {p lpos pos : Pos}
/-- _law_refused(lambda: body) -/
theorem pe_ref (hg : Gl X "_law_refused") (R : Raw X.K X.mg "_law_refused" sRef ["action"]) (EXt : EX X.prog X.K X.mg CW CR fW fR) (S : Rel2 X.K CW CR) (TB : LamX.TabB X.base X.mg c P) (hcode : X.env.code = .ref c) (hmT : (P, X.env.qual ++ "<lambda>") ∈ T) (hu : ∀ p ∈ T, p.1 = P → p.2 = X.env.qual ++ "<lambda>") (hr : Room (k + 2) X.A)
    (L : LamX.LamS X.env.scope scope) (hbody : ∀ (A : Around) (outer : List Env) (s : Shared) (H : Hp) (E : XK) (f c' : Addr), Room k (A.deeper (LamX.lamEnv X scope s.heap.objs.size f c')) → PE (LamX.lamCx X A outer s H E scope f c') body (t E))
    (hdef : defaultsOf params X.env = ([], []) := by rfl) (hbind : ∀ (q : Str) (cl : List (Str × Addr)) (pm cv ctv : Value), bindArgs (PySem.W.kla_fn "<lambda>" q params body scope cl pm cv ctv) ⟨[], []⟩ = pure [] := by intros; rfl) :
    PE X (.Call (.Name "_law_refused" p) [.Lambda params body scope lpos] [] pos) (LamX.tLam T (TRef CW CR) t) := by
  obtain ⟨f, fd, F, hm, hb⟩ := R
  obtain ⟨oc, od, kV, doc, pm, an, cdv, ct, osl, rfl, lk, hcd⟩ := F.ex
  exact LamX.pe_lamcall (TT := TRef CW CR) hg hm F.kp lk hcd hb scRef rfl (Or.inl rfl) (ref_gives EXt S) TB hcode hmT hu hr L hdef hbind hbody
end
end K40

namespace K40
open PySem PySem.Spec PyProof.Rows L2 Rg PySem.RingX
/-! ### sorted items -/
theorem code_inj {B : Int} : ∀ {ns ms : List Int}, ns.length = ms.length → TS.Bd B ns → TS.Bd B ms → TS.code B ns = TS.code B ms → ns = ms
  | [], [], _, _, _, _ => rfl
  | [], _ :: _, h, _, _, _ => by cases h
  | _ :: _, [], h, _, _, _ => by cases h
  | d :: r, e :: q, h, h1, h2, hc => by
    have hl : r.length = q.length := by simpa using h
    rcases Int.lt_trichotomy d e with z | z | z
    · have := TS.code_lt hl h1.tail h2.tail z
      omega
    · subst z
      have : TS.code B r = TS.code B q := by
        have e1 : TS.code B (d :: r) = d * B ^ r.length + TS.code B r := rfl
        have e2 : TS.code B (d :: q) = d * B ^ q.length + TS.code B q := rfl
        rw [e1, e2, hl] at hc
        omega
      rw [code_inj hl h1.tail h2.tail this]
    · have := TS.code_lt hl.symm h2.tail h1.tail z
      omega
def numsD : D → List Int | .tuple [.int k, .int x, .int m] => [k, x, m] | _ => []
def Big : Int := 2 ^ 201
theorem bnd_bd {lo hi hs : Int} {d : D} (h : Bnd lo hi hs d) (h1 : 0 ≤ lo) (h2 : hi < Big) (h3 : hs < Big) : TS.Bd Big (numsD d) ∧ (numsD d).length = 3 := by
  obtain ⟨k, x, m, rfl, k1, k2, x1, x2, m1, m2⟩ := h
  have hB : (9 : Int) < Big := by decide
  refine ⟨fun z hz => ?_, rfl⟩
  have hz : z ∈ [k, x, m] := hz
  simp only [List.mem_cons, List.not_mem_nil, or_false] at hz
  rcases hz with e | e | e <;> subst e <;> constructor <;> omega
theorem bnd_nums {lo hi hs : Int} {d e : D} (h : Bnd lo hi hs d) (h' : Bnd lo hi hs e) (z : numsD d = numsD e) : d = e := by
  obtain ⟨k, x, m, rfl, _⟩ := h
  obtain ⟨k', x', m', rfl, _⟩ := h'
  have z : [k, x, m] = [k', x', m'] := z
  cases z
  rfl
theorem bnd_tup {K : PySem.W.Frag} {H : Hp} {v : V} {lo hi hs : Int} {d : D} (h : Bnd lo hi hs d) (dp : Dp K H v d) : TupI K H v (numsD d) := by
  obtain ⟨k, x, m, rfl, _⟩ := h
  obtain ⟨a, rfl, q⟩ := dp_item dp
  exact ⟨a, rfl, q⟩
theorem DpAll.mem {K : PySem.W.Frag} {H : Hp} : ∀ {xs : List V} {ds : List D} {x : V}, DpAll K H xs ds → x ∈ xs → ∃ d ∈ ds, Dp K H x d
  | _, _, _, .nil, h => nomatch h
  | _, _, _, .cons h t, m => by
    rcases List.mem_cons.mp m with e | m
    · subst e; exact ⟨_, List.mem_cons_self, h⟩
    · obtain ⟨d, h1, h2⟩ := DpAll.mem t m
      exact ⟨d, List.mem_cons_of_mem _ h1, h2⟩
theorem DpAll.perm {K : PySem.W.Frag} {H : Hp} {xs ys : List V} (p : ys.Perm xs) : ∀ {ds : List D}, DpAll K H xs ds → ∃ es, DpAll K H ys es ∧ es.Perm ds := by
  induction p with
  | nil => intro ds h; exact ⟨ds, h, .refl _⟩
  | cons x _ ih =>
    intro ds h
    cases h with
    | cons h t =>
      obtain ⟨es, h1, h2⟩ := ih t
      exact ⟨_ :: es, .cons h h1, h2.cons _⟩
  | swap x y l =>
    intro ds h
    cases h with
    | cons h1 t => cases t with
      | cons h2 t => exact ⟨_, .cons h2 (.cons h1 t), .swap _ _ _⟩
  | trans _ _ ih1 ih2 =>
    intro ds h
    obtain ⟨es, h1, h2⟩ := ih2 h
    obtain ⟨fs, h3, h4⟩ := ih1 h1
    exact ⟨fs, h3, h4.trans h2⟩
theorem DpAll.sorted {K : PySem.W.Frag} {H : Hp} {lo hi hs : Int} : ∀ {ys : List V} {es : List D}, DpAll K H ys es → (∀ e ∈ es, Bnd lo hi hs e) → ys.Pairwise (fun x y => ∀ n m, TupI K H x n → TupI K H y m → TS.code Big n ≤ TS.code Big m) → es.Pairwise (fun d e => TS.code Big (numsD d) ≤ TS.code Big (numsD e))
  | _, _, .nil, _, _ => .nil
  | _, _, .cons h t, hb, hp => by
    obtain ⟨h1, h2⟩ := List.pairwise_cons.mp hp
    refine List.pairwise_cons.mpr ⟨fun e he => ?_, DpAll.sorted t (fun e he => hb e (List.mem_cons_of_mem _ he)) h2⟩
    obtain ⟨j, hj, ej⟩ := List.getElem_of_mem he
    obtain ⟨y, hy, dy⟩ := t.get (List.getElem?_eq_getElem hj)
    rw [ej] at dy
    exact h1 y (List.mem_of_getElem? hy) _ _ (bnd_tup (hb _ List.mem_cons_self) h) (bnd_tup (hb e (List.mem_cons_of_mem _ he)) dy)
theorem sorted_one {lo hi hs : Int} {ds es fs : List D} (h1 : 0 ≤ lo) (h2 : hi < Big) (h3 : hs < Big) (hb : ∀ e ∈ ds, Bnd lo hi hs e) (p1 : es.Perm ds) (p2 : fs.Perm ds) (s1 : es.Pairwise (fun d e => TS.code Big (numsD d) ≤ TS.code Big (numsD e))) (s2 : fs.Pairwise (fun d e => TS.code Big (numsD d) ≤ TS.code Big (numsD e))) : es = fs := by
  refine List.Perm.eq_of_pairwise (fun a b ha hb' hab hba => ?_) s1 s2 (p1.trans p2.symm)
  have b1 := hb a (p1.mem_iff.mp ha)
  have b2 := hb b (p2.mem_iff.mp hb')
  obtain ⟨q1, l1⟩ := bnd_bd b1 h1 h2 h3
  obtain ⟨q2, l2⟩ := bnd_bd b2 h1 h2 h3
  exact bnd_nums b1 b2 (code_inj (l1.trans l2.symm) q1 q2 (Int.le_antisymm hab hba))
/-! ### what a def of the law knows of the heap -/
structure Stt (K : PySem.W.Frag) (T : List (Addr × Str)) (b c : Addr) (ns : List Int) (ct : Int) (l : List (V × D)) (H : Hp) : Prop where
  bag : BagAt H b c ns ct
  tab : LamX.Tabs T H
  dat : ∀ q ∈ l, Dp K H q.1 q.2
section
variable {K : PySem.W.Frag} {T : List (Addr × Str)} {b c : Addr} {ns : List Int} {ct ct' : Int} {l : List (V × D)} {H H' : Hp}
theorem Stt.same (x : Stt K T b c ns ct l H) (s : Same H H') : Stt K T b c ns ct l H' := ⟨x.bag.keep s, x.tab.ext s, fun q hq => (x.dat q hq).keep s⟩
theorem Stt.ofN (x : Stt K T b c ns ct l H) (s : LamX.ExtN H H') (t : LamX.Tabs T H') : Stt K T b c ns ct l H' := ⟨x.bag.keepN s, t, fun q hq => (x.dat q hq).keepD (ExtD.ofN s)⟩
theorem Stt.draw (x : Stt K T b c ns ct l H) (s : SameBut b H H') (B : BagAt H' b c ns ct') : Stt K T b c ns ct' l H' := ⟨B, x.bag.tabs s x.tab, fun q hq => (x.dat q hq).keepD (x.bag.ext s)⟩
theorem Stt.add (x : Stt K T b c ns ct l H) {v : V} {d : D} (h : Dp K H v d) : Stt K T b c ns ct ((v, d) :: l) H := ⟨x.bag, x.tab, fun q hq => by
  rcases List.mem_cons.mp hq with e | hq
  · rw [e]; exact h
  · exact x.dat q hq⟩
end
/-- a value that is not looked into, or an object -/
def Plain (v : V) : Prop := flatB v = true ∨ ∃ c, v = .ref c
theorem dp_plain {K : PySem.W.Frag} {H : Hp} {v : V} {d : D} (h : Dp K H v d) : Plain v := by
  cases h with
  | non => exact .inl rfl
  | bl b => exact .inl rfl
  | int i => exact .inl rfl
  | str x => exact .inl rfl
  | lst _ _ => exact .inr ⟨_, rfl⟩
  | tup _ _ => exact .inr ⟨_, rfl⟩
section
variable {K : PySem.W.Frag} {CW CR : Addr} {v : V} {H1 : Hp} {Q : VK}
theorem told_ring (next : ∀ H' p, Same H1 H' → SqT K H' p [.str "ring", v] → Q (.ref p) H') : Rz CR "ring" v H1 (ToldE CW CR Q) := fun H' dd s n =>
  .inl ⟨rfl, dd, v, rfl, upd_same, fun p hp => next _ p ((s.trans (same_upd n)).trans (same_upd hp)) (SqT.of upd_same)⟩
theorem told_way (next : ∀ H' p, Same H1 H' → SqT K H' p [.str "way", v] → Q (.ref p) H') : Rz CW "way" v H1 (ToldE CW CR Q) := fun H' dd s n =>
  .inr ⟨rfl, dd, v, rfl, upd_same, fun p hp => next _ p ((s.trans (same_upd n)).trans (same_upd hp)) (SqT.of upd_same)⟩
theorem plain2 {s : Str} (h : Plain v) : ∀ w ∈ [V.str s, v], flatB w = true ∨ ∃ c, w = .ref c := fun w hw => by
  simp only [List.mem_cons, List.not_mem_nil, or_false] at hw
  rcases hw with e | e
  · rw [e]; exact .inl rfl
  · rw [e]; exact h
end
theorem passX {P : Program} {w : World} {X : Cx} : Passes (L2.CX P w) X E0 := fun _ _ _ _ _ _ _ h => (noX _ _ _ _ h).elim
end K40

namespace K40
open PySem PySem.Spec PyProof.Rows L2 Rg PySem.RingX
abbrev sPR : Stmt := top 37
abbrev nPR : List Str := ["bag", "hashes", "way", "ring", "items", "many", "odd", "twice", "wrong"]
theorem scPR : FnScope nPR ["bag", "hashes"] (defScope sPR) := ⟨rfl, rfl, rfl, by decide +kernel, rfl, by decide +kernel, by decide +kernel⟩
/-- where the lambdas are made -/
structure Lam (base : Heap) (mg : Str → Option Value) (T : List (Addr × Str)) (c0 P0 : Addr) (q : Str) : Prop where
  tb : LamX.TabB base mg c0 P0
  mem : (P0, q) ∈ T
  uniq : ∀ p ∈ T, p.1 = P0 → p.2 = q
theorem TyX.keepN {K : PySem.W.Frag} {H H' : Hp} {v : V} {t : Value} (h : TyX K H v t) (s : LamX.ExtN H H') : TyX K H' v t := by
  cases h with
  | base h =>
    refine .base ?_
    cases h with
    | non => exact .non
    | bl x => exact .bl x
    | int i => exact .int i
    | str x => exact .str x
    | flt x => exact .flt x
    | lst e => exact .lst (s _ _ e fun _ z => nomatch z)
    | frz e => exact .frz (s _ _ e fun _ z => nomatch z)
    | tup e => exact .tup (s _ _ e fun _ z => nomatch z)
    | dK e => exact .dK (s _ _ e fun _ z => nomatch z)
    | dT e => exact .dT (s _ _ e fun _ z => nomatch z)
    | ins e cl ha hn htk hm => exact .ins (s _ _ e fun _ z => nomatch z) cl ha hn htk hm
  | byt b => exact .byt b
  | set e => exact .set (s _ _ e fun _ z => nomatch z)
  | kList e c => exact .kList e c
  | kTuple e c => exact .kTuple e c
  | kDict e c => exact .kDict e c
  | fTuple e => exact .fTuple (s _ _ e fun _ z => nomatch z)
  | fDict e => exact .fDict (s _ _ e fun _ z => nomatch z)
theorem Asked.keepN {K : PySem.W.Frag} {H H' : Hp} {v : V} {b : Bool} (h : Asked K H v b) (s : LamX.ExtN H H') : Asked K H' v b := by
  cases h with
  | dat h z => exact .dat (h.keepD (ExtD.ofN s)) z
  | no h => obtain ⟨T, h1, h2⟩ := h; exact .no ⟨T, TyX.keepN h1 s, h2⟩
section
variable {P : Program} {w : World} {K : PySem.W.Frag} {mg : Str → Option Value} {base : Heap} {CW CR fW fR : Addr} {T : List (Addr × Str)} {c0 P0 : Addr}
abbrev xPR (P : Program) (w : World) (K : PySem.W.Frag) (mg : Str → Option Value) (base : Heap) (f c0 : Addr) (A : Around) (outer : List Env) (s : Shared) (H : Hp) (E : XK) : Cx := (cxOf CX0 P w K mg base nPR "_law_placed_right" (defScope sPR) f (.ref c0) A outer s H E).nox
/-- what is asked of the items in placed_right -/
structure Its (its : List D) (m : Nat) : Prop where
  ok : itemsL its = true
  lt : its.length < m
  le : m ≤ 100
def oddV : List D := [.none, .int 5, .str "ab", .tuple [.int 1, .int 2, .int 3]]
theorem tail_pr {f : Addr} {A : Around} {outer : List Env} {s : Shared} {H : Hp} {E : XK} (hr : Room 9 (A.deeper (envOfC "_law_placed_right" (defScope sPR) s.heap.objs.size f (.ref c0)))) (R : Raw K mg "_law_refused" sRef ["action"]) (EXt : EX P K mg CW CR fW fR) (S : Rel2 K CW CR) (L : Lam base mg T c0 P0 "_law_placed_right.<locals>.<lambda>") (DP : Def P w K mg base (L2.CX P w) "placed" 5 ["items", "many", "way"] (spPlaced K CW CR)) :
    ∃ t, PSs (xPR P w K mg base f c0 A outer s H E) ((defBody sPR).drop 8) t ∧ ∀ (Q : VK) (b c : Addr) (ns : List Int) (ct : Int) (hs : Int) (x2 x3 xw : Option V) (vi vt vo : V) (its tw : List D) (m : Nat) (H1 : Hp),
      Stt K T b c ns ct [(vi, .list its), (vt, .list tw)] H1 → Its its m → (Asked K H1 vo false) → Plain vo → itemsL tw = false → tw.length ≤ 100 → (∀ H', Q (.bl true) H') → t { nx := fun _ H' => Q .non H', rt := Q } [some (.ref b), some (.int hs), x2, x3, some vi, some (.int (m : Nat)), some vo, some vt, xw] H1 := by
  obtain ⟨fP, dP, GP, gP, kP, bP⟩ := DP
  have hu : (A.deeper (envOfC "_law_placed_right" (defScope sPR) s.heap.objs.size f (.ref c0))).units < cLine := by have := hr.un; omega
  refine ⟨_, pss_cons (ps_if (pt_cmpR (op_neS hu) (pe_ref (T := T) (k := 5) (t := fun E => tCall (spPlaced K CW CR) [] E (tCons (tVar 7) (tCons (tOp (rI0 fun i j => .int (i + j)) (tVar 5) (tC (.int 5))) (tCons (tC (.str "plain")) tNil)))) (by rfl) R EXt S L.tb rfl L.mem L.uniq (hr.mono (by decide)) (LamX.lamS_by (by kernel_rfl))
        (fun A outer s H E f c' hr => pe_call (E := E) GP hr (by rfl) gP kP bP .nil (passes_call (takes_of rfl rfl rfl rfl) (fun _ _ _ _ z => z)) (pa_cons (pv 7) (pa_cons (pe_op op_add (pv 5) pe_int) (pa_cons pe_str pa_nil))))) (pe_tup (pa_cons pe_str (pa_cons (pv 7) pa_nil))) (by rfl)) (pss_one (ps_ret pe_bl)) pss_nil)
    (pss_cons (ps_if (pt_cmpR (op_neS hu) (pe_ref (T := T) (k := 5) (t := fun E => tCall (spPlaced K CW CR) [] E (tCons (tVar 6) (tCons (tOp (rI0 fun i j => .int (i + j)) (tVar 5) (tC (.int 5))) (tCons (tC (.str "plain")) tNil)))) (by rfl) R EXt S L.tb rfl L.mem L.uniq (hr.mono (by decide)) (LamX.lamS_by (by kernel_rfl))
        (fun A outer s H E f c' hr => pe_call (E := E) GP hr (by rfl) gP kP bP .nil (passes_call (takes_of rfl rfl rfl rfl) (fun _ _ _ _ z => z)) (pa_cons (pv 6) (pa_cons (pe_op op_add (pv 5) pe_int) (pa_cons pe_str pa_nil))))) (pe_tup (pa_cons pe_str (pa_cons (pv 6) pa_nil))) (by rfl)) (pss_one (ps_ret pe_bl)) pss_nil)
    (pss_one (ps_ret (pe_cmpR (op_eqS hu) (pe_ref (T := T) (k := 5) (t := fun E => tCall (spPlaced K CW CR) [] E (tCons (tVar 4) (tCons (tVar 5) (tCons (tC (.str "never")) tNil)))) (by rfl) R EXt S L.tb rfl L.mem L.uniq (hr.mono (by decide)) (LamX.lamS_by (by kernel_rfl))
        (fun A outer s H E f c' hr => pe_call (E := E) GP hr (by rfl) gP kP bP .nil (passes_call (takes_of rfl rfl rfl rfl) (fun _ _ _ _ z => z)) (pa_cons (pv 4) (pa_cons (pv 5) (pa_cons pe_str pa_nil))))) (pe_tup (pa_cons pe_str (pa_cons pe_str pa_nil))) (by rfl))))), ?_⟩
  intro Q b c ns ct hs x2 x3 xw vi vt vo its tw m H1 st hI hA hPo htw htl hQ
  have hle := hI.le
  -- twice
  refine ⟨st.tab, fun H2 e2 t2 => ?_⟩
  have st2 := st.ofN e2 t2
  have hA2 := hA.keepN e2
  have dt2 := st2.dat (vt, .list tw) (by simp)
  refine ⟨_, rfl, _, rfl, _, _, rfl, rfl, vt, m + 5, .str "plain", .str "plain", rfl, .str _, (fun _ e => nomatch e), by omega, .inl ⟨.list tw, tw, dt2, .inr rfl, by omega, (fun h => by rw [htw] at h; cases h), (fun h => by rw [htw] at h; cases h), fun _ => told_ring (K := K) fun H3 p s3 sq3 => ?_⟩⟩
  refine ⟨_, rfl, (by show 2 ≤ sizeLine; decide), fun p2 hp2 => ⟨p, p2, [.str "ring", vt], rfl, rfl, (same_upd hp2).sqT sq3, SqT.of upd_same, plain2 (dp_plain dt2), _, rfl, ifF rfl ?_⟩⟩
  have sm := s3.trans (same_upd (o := .tup [V.str "ring", vt]) hp2)
  have st3 := st2.same sm
  -- odd
  refine ⟨st3.tab, fun H4 e4 t4 => ?_⟩
  have st4 := st3.ofN e4 t4
  have hA4 := (hA2.keepN (LamX.ExtN.of sm)).keepN e4
  refine ⟨_, rfl, _, rfl, _, _, rfl, rfl, vo, m + 5, .str "plain", .str "plain", rfl, .str _, (fun _ e => nomatch e), by omega, .inr ⟨hA4, told_ring (K := K) fun H5 p' s5 sq5 => ?_⟩⟩
  refine ⟨_, rfl, (by show 2 ≤ sizeLine; decide), fun p3 hp3 => ⟨p', p3, [.str "ring", vo], rfl, rfl, (same_upd hp3).sqT sq5, SqT.of upd_same, plain2 hPo, _, rfl, ifF rfl ?_⟩⟩
  have st5 := st4.same (s5.trans (same_upd (o := .tup [V.str "ring", vo]) hp3))
  -- no way
  refine ⟨st5.tab, fun H6 e6 t6 => ?_⟩
  have st6 := st5.ofN e6 t6
  have di6 := st6.dat (vi, .list its) (by simp)
  have hlt := hI.lt
  have hnw : wayD (.str "never") = false := by kernel_rfl
  refine ⟨_, rfl, _, rfl, vi, m, .str "never", .str "never", rfl, .str _, (fun _ e => nomatch e), by omega, .inl ⟨.list its, its, di6, .inr rfl, by omega, (fun _ _ h => by rw [hnw] at h; cases h), (fun _ _ _ => told_way (K := K) fun H7 p'' s7 sq7 => ?_), fun h => absurd ⟨hI.ok, hlt⟩ h⟩⟩
  exact ⟨(by show 2 ≤ sizeLine; decide), fun p4 hp4 => ⟨p'', p4, [.str "way", .str "never"], rfl, rfl, (same_upd hp4).sqT sq7, SqT.of upd_same, plain2 (.inl rfl), hQ _⟩⟩
end
end K40

namespace K40
open PySem PySem.Spec PyProof.Rows L2 Rg PySem.RingX
theorem not_items {its : List D} {d : D} (h : itemD d = false ∨ ∃ e ∈ its, keyD e = keyD d) : itemsL (its ++ [d]) = false := by
  unfold itemsL
  rcases h with h | ⟨e, he, hk⟩
  · rw [List.all_append, List.all_cons, h]
    simp
  · have z : keysDiffer (its ++ [d]) = false := by
      unfold keysDiffer
      refine decide_eq_false fun nd => ?_
      rw [List.map_append] at nd
      have := (List.nodup_append.mp nd).2.2 (keyD e) (List.mem_map.mpr ⟨e, he, rfl⟩) (keyD d) (by simp)
      exact this hk
    rw [z, Bool.and_false]
section
variable {P : Program} {w : World} {K : PySem.W.Frag} {mg : Str → Option Value} {base : Heap} {CW CR fW fR : Addr} {T : List (Addr × Str)} {c0 P0 : Addr}
theorem mid3_pr {f : Addr} {A : Around} {outer : List Env} {s : Shared} {H : Hp} {E : XK} (hr : Room 9 (A.deeper (envOfC "_law_placed_right" (defScope sPR) s.heap.objs.size f (.ref c0)))) (R : Raw K mg "_law_refused" sRef ["action"]) (EXt : EX P K mg CW CR fW fR) (S : Rel2 K CW CR) (L : Lam base mg T c0 P0 "_law_placed_right.<locals>.<lambda>") (DP : Def P w K mg base (L2.CX P w) "placed" 5 ["items", "many", "way"] (spPlaced K CW CR)) (DD : DDraw P w K mg base) :
    ∃ t, PSs (xPR P w K mg base f c0 A outer s H E) ((defBody sPR).drop 7) t ∧ ∀ (Q : VK) (b c : Addr) (ns : List Int) (ct : Int) (hs : Int) (x2 x3 xo xw : Option V) (vi vt : V) (its tw : List D) (m : Nat) (H1 : Hp),
      Stt K T b c ns ct [(vi, .list its), (vt, .list tw)] H1 → Its its m → itemsL tw = false → tw.length ≤ 100 → 0 ≤ ct → ct < 900000 → ns.length < 1000 → (∀ H', Q (.bl true) H') → t { nx := fun _ H' => Q .non H', rt := Q } [some (.ref b), some (.int hs), x2, x3, some vi, some (.int (m : Nat)), xo, some vt, xw] H1 := by
  obtain ⟨t8, p8, q8⟩ := tail_pr (A := A) (outer := outer) (s := s) (H := H) (E := E) (f := f) hr R EXt S L DP
  obtain ⟨fD, dD, GD, gD, kD, bD⟩ := DD
  have hr1 : Room 1 (A.deeper (envOfC "_law_placed_right" (defScope sPR) s.heap.objs.size f (.ref c0))) := hr.mono (by decide)
  refine ⟨_, pss_cons (ps_set (i := 6) scPR.nd rfl (Or.inr rfl) (pe_ix ix_list (pe_lst (pa_cons pe_non (pa_cons pe_int (pa_cons pe_str (pa_cons pe_dnewK (pa_cons (pe_tup (pa_cons pe_int (pa_cons pe_int (pa_cons pe_int pa_nil)))) pa_nil)))))) (pe_call GD hr1 (by rfl) gD kD bD .nil pass0 (pa_cons (pv 0) (pa_cons pe_int pa_nil))) (fun _ _ => rfl))) p8, ?_⟩
  intro Q b c ns ct hs x2 x3 xo xw vi vt its tw m H1 st hI htw htl hct hct2 hns hQ
  refine fun d hd => ⟨(by show 3 ≤ sizeLine; decide), fun pt hpt => ⟨(by show 5 ≤ sizeLine; decide), fun l hl => ?_⟩⟩
  have s1 := same_upd (o := .dK []) hd
  have s2 := same_upd (o := .tup [V.int 1, V.int 2, V.int 3]) hpt
  have s3 := same_upd (o := .lst [V.non, .int 5, .str "ab", .ref d, .ref pt]) hl
  have s13 := (s1.trans s2).trans s3
  have st3 := st.same s13
  have hdict : upd (upd (upd H1 d (.dK [])) pt (.tup [V.int 1, V.int 2, V.int 3])) l (.lst [V.non, .int 5, .str "ab", .ref d, .ref pt]) d = some (.dK []) := (s2.trans s3) _ _ upd_same
  have dtup : Dp K _ (.ref pt) (.tuple [.int 1, .int 2, .int 3]) := (new_tup (K := K) (.cons (.int 1) (.cons (.int 2) (.cons (.int 3) .nil))) hpt).keep s3
  obtain ⟨kvs, hb1⟩ := st.bag.dk
  have ndb : d ≠ b := (ne_of_none hb1 hd).symm
  refine ⟨_, rfl, b, c, 5, ns, ct, rfl, st3.bag, hct, by omega, by decide, by decide, hns, fun r H2 hr0 hr5 B2 s4 => ?_⟩
  have e4 := st3.bag.ext s4
  have st4 := st3.draw s4 B2
  have hdict2 : H2 d = some (.dK []) := s4 d _ ndb hdict
  have dtup2 := dtup.keepD e4
  have hl2 : H2 l = some (.lst [V.non, .int 5, .str "ab", .ref d, .ref pt]) := e4 l _ (.inl ⟨_, rfl⟩) upd_same
  obtain ⟨v, hat, hAsk, hPl⟩ : ∃ v, atI [V.non, .int 5, .str "ab", .ref d, .ref pt] r = some v ∧ Asked K H2 v false ∧ Plain v := by
    have cs : r = 0 ∨ r = 1 ∨ r = 2 ∨ r = 3 ∨ r = 4 := by omega
    rcases cs with e | e | e | e | e <;> subst e
    · exact ⟨_, rfl, Asked.dat (d := .none) .non (fun ds h => by rcases h with h | h <;> cases h), .inl rfl⟩
    · exact ⟨_, rfl, Asked.dat (d := .int 5) (.int 5) (fun ds h => by rcases h with h | h <;> cases h), .inl rfl⟩
    · exact ⟨_, rfl, Asked.dat (d := .str "ab") (.str "ab") (fun ds h => by rcases h with h | h <;> cases h), .inl rfl⟩
    · exact ⟨_, rfl, .no ⟨"dict", .base (.dK hdict2), by kernel_rfl, by kernel_rfl⟩, .inr ⟨_, rfl⟩⟩
    · exact ⟨_, rfl, Asked.dat (d := .tuple [.int 1, .int 2, .int 3]) dtup2 (fun ds h => by
        rcases h with h | h
        · cases h; show 3 ≤ 1000; decide
        · cases h), .inr ⟨_, rfl⟩⟩
  exact ⟨l, _, r, v, rfl, rfl, SqL.of hl2, hat, q8 Q b c ns _ hs x2 x3 xw vi vt v its tw m H2 st4 hI hAsk hPl htw htl hQ⟩
end
end K40

namespace K40
open PySem PySem.Spec PyProof.Rows L2 Rg PySem.RingX
theorem items_all {its : List D} (h : itemsL its = true) : ∀ d ∈ its, itemD d = true := fun d hd => by
  unfold itemsL at h
  exact List.all_eq_true.mp (Bool.and_eq_true_iff.mp h).1 d hd
theorem items_shape {its : List D} (h : itemsL its = true) : SeqAt.shaped (.list its) = true :=
  (tame_lst fun d hd => tame_row (by unfold rowD; rw [items_all h d hd, Bool.or_true])).shaped
theorem eqv_nil (its : List D) : PyData.eqv (.list its) (.list []) = decide (its = []) := by
  cases its with
  | nil => rfl
  | cons _ _ => rfl
section
variable {P : Program} {w : World} {K : PySem.W.Frag} {mg : Str → Option Value} {base : Heap} {CW CR fW fR : Addr} {T : List (Addr × Str)} {c0 P0 : Addr}
theorem mid2_pr {f : Addr} {A : Around} {outer : List Env} {s : Shared} {H : Hp} {E : XK} (hr : Room 9 (A.deeper (envOfC "_law_placed_right" (defScope sPR) s.heap.objs.size f (.ref c0)))) (G : GT mg) (R : Raw K mg "_law_refused" sRef ["action"]) (EXt : EX P K mg CW CR fW fR) (S : Rel2 K CW CR) (L : Lam base mg T c0 P0 "_law_placed_right.<locals>.<lambda>") (DP : Def P w K mg base (L2.CX P w) "placed" 5 ["items", "many", "way"] (spPlaced K CW CR)) (DD : DDraw P w K mg base) :
    ∃ t, PSs (xPR P w K mg base f c0 A outer s H E) ((defBody sPR).drop 4) t ∧ ∀ (Q : VK) (b c p : Addr) (ns : List Int) (ct : Int) (hs : Int) (x2 x3 xo xt : Option V) (vw : V) (ys : List V) (its wr : List D) (m : Nat) (H1 : Hp),
      Stt K T b c ns ct [(vw, .list wr)] H1 → H1 p = some (.lst ys) → DpAll K H1 ys its → Its its m → itemsL wr = false → wr.length ≤ 100 → its.length ≤ 50 → 0 ≤ ct → ct < 900000 → ns.length < 1000 → (∀ H', Q (.bl true) H') → t { nx := fun _ H' => Q .non H', rt := Q } [some (.ref b), some (.int hs), x2, x3, some (.ref p), some (.int (m : Nat)), xo, xt, some vw] H1 := by
  obtain ⟨fP, dP, GP, gP, kP, bP⟩ := DP
  have DP : Def P w K mg base (L2.CX P w) "placed" 5 ["items", "many", "way"] (spPlaced K CW CR) := ⟨fP, dP, GP, gP, kP, bP⟩
  obtain ⟨t7, p7, q7⟩ := mid3_pr (A := A) (outer := outer) (s := s) (H := H) (E := E) (f := f) hr R EXt S L DP DD
  have hu : (A.deeper (envOfC "_law_placed_right" (defScope sPR) s.heap.objs.size f (.ref c0))).units < cLine := by have := hr.un; omega
  have hu64 : (A.deeper (envOfC "_law_placed_right" (defScope sPR) s.heap.objs.size f (.ref c0))).units + 64 < cLine := by have := hr.un; omega
  refine ⟨_, pss_cons (ps_if (pt_cmpR (op_neS hu) (pe_ref (T := T) (k := 5) (t := fun E => tCall (spPlaced K CW CR) [] E (tCons (tVar 8) (tCons (tOp (rI0 fun i j => .int (i + j)) (tVar 5) (tC (.int 5))) (tCons (tC (.str "never")) tNil)))) (by rfl) R EXt S L.tb rfl L.mem L.uniq (hr.mono (by decide)) (LamX.lamS_by (by kernel_rfl))
        (fun A outer s H E f c' hr => pe_call (E := E) GP hr (by rfl) gP kP bP .nil (passes_call (takes_of rfl rfl rfl rfl) (fun _ _ _ _ z => z)) (pa_cons (pv 8) (pa_cons (pe_op op_add (pv 5) pe_int) (pa_cons pe_str pa_nil))))) (pe_tup (pa_cons pe_str (pa_cons (pv 8) pa_nil))) (by rfl)) (pss_one (ps_ret pe_bl)) pss_nil)
    (pss_cons (ps_if (pt_cmpR (op_neS hu) (pe_ref (T := T) (k := 5) (t := fun E => tCall (spPlaced K CW CR) [] E (tCons (tVar 4) (tCons (tCB (fun vs H Q => ∃ p xs, vs = [.ref p] ∧ (SqL K H p xs ∨ SqT K H p xs) ∧ Q (.int xs.length) H) (tCons (tVar 4) tNil)) (tCons (tC (.str "plain")) tNil)))) (by rfl) R EXt S L.tb rfl L.mem L.uniq (hr.mono (by decide)) (LamX.lamS_by (by kernel_rfl))
        (fun A outer s H E f c' hr => pe_call (E := E) GP hr (by rfl) gP kP bP .nil (passes_call (takes_of rfl rfl rfl rfl) (fun _ _ _ _ z => z)) (pa_cons (pv 4) (pa_cons (pe_callB (show CallR _ _ (fun vs H Q => ∃ p xs, vs = [.ref p] ∧ (SqL K H p xs ∨ SqT K H p xs) ∧ Q (.int xs.length) H) from call_len_seq) (by rfl) G.len PySem.boot_len (pa_cons (pv 4) pa_nil)) (pa_cons pe_str pa_nil))))) (pe_tup (pa_cons pe_str (pa_cons (pv 4) pa_nil))) (by rfl)) (pss_one (ps_ret pe_bl)) pss_nil)
    (pss_cons (ps_set (i := 7) scPR.nd rfl (Or.inr rfl) (pe_ifExp (pt_cmpR (op_neD hu64) (pv 4) (pe_lst pa_nil) (by rfl)) (pe_op op_cat (pv 4) (pe_lst (pa_cons (pe_tup (pa_cons (pe_ix ix_tup (pe_ix ix_list (pv 4) pe_int (fun _ _ => rfl)) pe_int (fun _ _ => rfl)) (pa_cons (pe_op op_add (pe_ix ix_tup (pe_ix ix_list (pv 4) pe_int (fun _ _ => rfl)) pe_int (fun _ _ => rfl)) pe_int) (pa_cons (pe_op op_add (pe_ix ix_tup (pe_ix ix_list (pv 4) pe_int (fun _ _ => rfl)) pe_int (fun _ _ => rfl)) pe_int) pa_nil)))) pa_nil))) (pe_lst (pa_cons pe_int pa_nil)))) p7)), ?_⟩
  intro Q b c p ns ct hs x2 x3 xo xt vw ys its wr m H1 st hp dp hI hwr hwl hil hct hct2 hns hQ
  have hle := hI.le
  have hlt := hI.lt
  -- wrong
  refine ⟨st.tab, fun H2 e2 t2 => ?_⟩
  have st2 := st.ofN e2 t2
  have dw2 := st2.dat (vw, .list wr) (by simp)
  refine ⟨_, rfl, _, rfl, _, _, rfl, rfl, vw, m + 5, .str "never", .str "never", rfl, .str _, (fun _ e => nomatch e), by omega, .inl ⟨.list wr, wr, dw2, .inr rfl, by omega, (fun h => by rw [hwr] at h; cases h), (fun h => by rw [hwr] at h; cases h), fun _ => told_ring (K := K) fun H3 p1 s3 sq3 => ?_⟩⟩
  refine ⟨_, rfl, (by show 2 ≤ sizeLine; decide), fun p2 hp2 => ⟨p1, p2, [.str "ring", vw], rfl, rfl, (same_upd hp2).sqT sq3, SqT.of upd_same, plain2 (dp_plain dw2), _, rfl, ifF rfl ?_⟩⟩
  have sm := s3.trans (same_upd (o := .tup [V.str "ring", vw]) hp2)
  have st3 := st2.same sm
  have hp3 := sm _ _ (e2 _ _ hp (fun _ z => nomatch z))
  -- too many
  refine ⟨st3.tab, fun H4 e4 t4 => ?_⟩
  have st4 := st3.ofN e4 t4
  have hp4 := e4 _ _ hp3 (fun _ z => nomatch z)
  have dp4 := DpAll.keepD (ExtD.ofN e4) (DpAll.keep sm (DpAll.keepD (ExtD.ofN e2) dp))
  have di4 : Dp K H4 (.ref p) (.list its) := .lst (SqL.of hp4) dp4
  have hyl := dp4.length
  refine ⟨_, rfl, _, rfl, p, ys, rfl, .inl (SqL.of hp4), .ref p, its.length, .str "plain", .str "plain", congrArg (fun z => [V.ref p, V.int (z : Nat), V.str "plain"]) hyl, .str _, (fun _ e => nomatch e), by omega, .inl ⟨.list its, its, di4, .inr rfl, by omega, (fun _ h => absurd h (Nat.lt_irrefl _)), (fun _ h => absurd h (Nat.lt_irrefl _)), fun _ => told_ring (K := K) fun H5 p3 s5 sq5 => ?_⟩⟩
  refine ⟨_, rfl, (by show 2 ≤ sizeLine; decide), fun p4 hp4' => ⟨p3, p4, [.str "ring", .ref p], rfl, rfl, (same_upd hp4').sqT sq5, SqT.of upd_same, plain2 (.inr ⟨_, rfl⟩), _, rfl, ifF rfl ?_⟩⟩
  have sm2 := s5.trans (same_upd (o := .tup [V.str "ring", .ref p]) hp4')
  have st5 := st4.same sm2
  have hp5 := sm2 _ _ hp4
  have dp5 := DpAll.keep sm2 dp4
  have di5 := di4.keep sm2
  -- twice
  refine ⟨_, rfl, (by show 0 ≤ sizeLine; decide), fun e0 he0 => ?_⟩
  have s6 := same_upd (o := .lst []) he0
  have st6 := st5.same s6
  have hp6 := s6 _ _ hp5
  have dp6 := DpAll.keep s6 dp5
  have di6 := di5.keep s6
  refine ⟨.list its, .list [], di6, new_lst .nil he0, items_shape hI.ok, (by kernel_rfl), _, rfl, ?_⟩
  rw [eqv_nil]
  by_cases hne : its = []
  · refine ifF (by rw [hne]; rfl) ⟨(by show 1 ≤ sizeLine; decide), fun l hl => ?_⟩
    have s7 := same_upd (o := .lst [V.int 5]) hl
    refine q7 Q b c ns ct hs x2 x3 xo _ (.ref p) (.ref l) its [.int 5] m _ (⟨(st6.same s7).bag, (st6.same s7).tab, fun q hq => ?_⟩) hI (by kernel_rfl) (by show 1 ≤ 100; decide) hct hct2 hns hQ
    simp only [List.mem_cons, List.not_mem_nil, or_false] at hq
    rcases hq with e | e <;> subst e
    · exact di6.keep s7
    · exact new_lst (.cons (.int 5) .nil) hl
  · refine ifT (by rw [decide_eq_false hne]; rfl) ?_
    obtain ⟨d0, rest, rfl⟩ : ∃ d0 rest, its = d0 :: rest := match its, hne with | d0 :: rest, _ => ⟨d0, rest, rfl⟩
    have hit := items_all hI.ok d0 List.mem_cons_self
    obtain ⟨kk, xx, mm, rfl, hxx⟩ := item_parts hit
    obtain ⟨y0, ys', rfl, dy0⟩ : ∃ y0 ys', ys = y0 :: ys' ∧ Dp K _ y0 (.tuple [.int kk, .int xx, .int mm]) := by
      cases dp6 with
      | cons h t => exact ⟨_, _, rfl, h⟩
    obtain ⟨a0, rfl, sqa⟩ := dp_item dy0
    refine ⟨_, rfl, _, rfl, p, _, 0, _, rfl, rfl, SqL.of hp6, atI_nat (j := 0) rfl, a0, _, 0, _, rfl, rfl, sqa, rfl, ?_⟩
    refine ⟨_, rfl, p, _, 0, _, rfl, rfl, SqL.of hp6, atI_nat (j := 0) rfl, a0, _, 1, _, rfl, rfl, sqa, rfl, _, _, rfl, rfl, ?_⟩
    refine ⟨_, rfl, p, _, 0, _, rfl, rfl, SqL.of hp6, atI_nat (j := 0) rfl, a0, _, 2, _, rfl, rfl, sqa, rfl, _, _, rfl, rfl, ?_⟩
    refine ⟨(by show 3 ≤ sizeLine; decide), fun pt hpt => ⟨(by show 1 ≤ sizeLine; decide), fun l1 hl1 => ?_⟩⟩
    have g1 := same_upd (o := .tup [V.int kk, V.int (xx + 1), V.int (mm + 1)]) hpt
    have g2 := same_upd (o := .lst [V.ref pt]) hl1
    have dt : Dp K _ (.ref pt) (.tuple [.int kk, .int (xx + 1), .int (mm + 1)]) := new_tup (.cons (.int kk) (.cons (.int (xx + 1)) (.cons (.int (mm + 1)) .nil))) hpt
    have hyl2 : ys'.length = rest.length := by simpa using hyl
    refine ⟨p, l1, _, _, rfl, rfl, g2 _ _ (g1 _ _ hp6), upd_same, ?_, fun l hl => ?_⟩
    · rw [sizeLine_eq]
      show (ys'.length + 1) + 1 ≤ _
      have : rest.length + 1 ≤ 50 := hil
      omega
    · have g3 := same_upd (o := .lst ((V.ref a0 :: ys') ++ [V.ref pt])) hl
      have s7 := (g1.trans g2).trans g3
      refine q7 Q b c ns ct hs x2 x3 xo _ (.ref p) (.ref l) _ ((.tuple [.int kk, .int xx, .int mm] :: rest) ++ [.tuple [.int kk, .int (xx + 1), .int (mm + 1)]]) m _ (⟨(st6.same s7).bag, (st6.same s7).tab, fun q hq => ?_⟩) hI (not_items (.inr ⟨_, List.mem_cons_self, rfl⟩)) (by rw [List.length_append]; show _ + 1 ≤ 100; omega) hct hct2 hns hQ
      simp only [List.mem_cons, List.not_mem_nil, or_false] at hq
      rcases hq with e | e <;> subst e
      · exact di6.keep s7
      · exact new_lst (DpAll.append (DpAll.keep (g1.trans g2) dp6) (.cons (dt.keep g2) .nil)) hl
end
end K40

namespace K40
open PySem PySem.Spec PyProof.Rows L2 Rg PySem.RingX
section
variable {P : Program} {w : World} {K : PySem.W.Frag} {mg : Str → Option Value} {base : Heap} {CW CR fW fR : Addr} {T : List (Addr × Str)} {c0 P0 : Addr}
theorem mid1_pr {f : Addr} {A : Around} {outer : List Env} {s : Shared} {H : Hp} {E : XK} (hr : Room 9 (A.deeper (envOfC "_law_placed_right" (defScope sPR) s.heap.objs.size f (.ref c0)))) (G : GT mg) (R : Raw K mg "_law_refused" sRef ["action"]) (EXt : EX P K mg CW CR fW fR) (S : Rel2 K CW CR) (L : Lam base mg T c0 P0 "_law_placed_right.<locals>.<lambda>") (DP : Def P w K mg base (L2.CX P w) "placed" 5 ["items", "many", "way"] (spPlaced K CW CR)) (DD : DDraw P w K mg base) :
    ∃ t, PSs (xPR P w K mg base f c0 A outer s H E) ((defBody sPR).drop 3) t ∧ ∀ (Q : VK) (b c p : Addr) (ns : List Int) (ct : Int) (hs : Int) (x2 x3 xo xt xw : Option V) (ys : List V) (its : List D) (m : Nat) (H1 : Hp),
      Stt K T b c ns ct [] H1 → H1 p = some (.lst ys) → DpAll K H1 ys its → Its its m → its.length ≤ 50 → 0 ≤ ct → ct < 800000 → ns.length < 1000 → (∀ H', Q (.bl true) H') → t { nx := fun _ H' => Q .non H', rt := Q } [some (.ref b), some (.int hs), x2, x3, some (.ref p), some (.int (m : Nat)), xo, xt, xw] H1 := by
  obtain ⟨t4, p4, q4⟩ := mid2_pr (A := A) (outer := outer) (s := s) (H := H) (E := E) (f := f) hr G R EXt S L DP DD
  obtain ⟨fD, dD, GD, gD, kD, bD⟩ := DD
  have hu64 : (A.deeper (envOfC "_law_placed_right" (defScope sPR) s.heap.objs.size f (.ref c0))).units + 64 < cLine := by have := hr.un; omega
  have hr1 : Room 1 (A.deeper (envOfC "_law_placed_right" (defScope sPR) s.heap.objs.size f (.ref c0))) := hr.mono (by decide)
  refine ⟨_, pss_cons (ps_set (i := 8) scPR.nd rfl (Or.inr rfl) (pe_op op_cat (pv 4) (pe_lst (pa_cons (pe_ix ix_list (pe_lst (pa_cons (pe_tup (pa_cons pe_int (pa_cons pe_int pa_nil))) (pa_cons (pe_tup (pa_cons pe_int (pa_cons (pe_un un_neg pe_int) (pa_cons pe_int pa_nil))))
        (pa_cons (pe_ifExp (pt_cmpR (op_neD hu64) (pv 4) (pe_lst pa_nil) (by rfl)) (pe_ix ix_list (pv 4) pe_int (fun _ _ => rfl)) pe_int) (pa_cons pe_non pa_nil))))) (pe_call GD hr1 (by rfl) gD kD bD .nil pass0 (pa_cons (pv 0) (pa_cons pe_int pa_nil))) (fun _ _ => rfl)) pa_nil)))) p4, ?_⟩
  intro Q b c p ns ct hs x2 x3 xo xt xw ys its m H1 st hp dp hI hil hct hct2 hns hQ
  refine ⟨_, rfl, (by show 2 ≤ sizeLine; decide), fun p1 hp1 => ⟨_, rfl, (by show 3 ≤ sizeLine; decide), fun p2 hp2 => ⟨_, rfl, (by show 0 ≤ sizeLine; decide), fun p3 hp3 => ?_⟩⟩⟩
  have g1 := same_upd (o := .tup [V.int 0, V.int 1]) hp1
  have g2 := same_upd (o := .tup [V.int 8, V.int (-1), V.int 3]) hp2
  have g3 := same_upd (o := .lst []) hp3
  have d1 : Dp K _ (.ref p1) (.tuple [.int 0, .int 1]) := new_tup (.cons (.int 0) (.cons (.int 1) .nil)) hp1
  have d2 : Dp K _ (.ref p2) (.tuple [.int 8, .int (-1), .int 3]) := new_tup (.cons (.int 8) (.cons (.int (-1)) (.cons (.int 3) .nil))) hp2
  have s3 := (g1.trans g2).trans g3
  have st3 := st.same s3
  have hp3' := s3 _ _ hp
  have dp3 := DpAll.keep s3 dp
  have d1' := d1.keep (g2.trans g3)
  have d2' := d2.keep g3
  refine ⟨.list its, .list [], .lst (SqL.of hp3') dp3, new_lst .nil hp3, items_shape hI.ok, (by kernel_rfl), _, rfl, ?_⟩
  rw [eqv_nil]
  have hyl := dp.length
  -- with what stands in the third place
  have fin : ∀ (vz : V) (dz : D) (l4 : Addr) (r : Int) (H4 : Hp), (vz = .int 5 ∧ dz = .int 5) ∨ (ys[0]? = some vz ∧ its[0]? = some dz) → ∀ H3, Stt K T b c ns ct [] H3 → H3 p = some (.lst ys) → DpAll K H3 ys its → Dp K H3 (.ref p1) (.tuple [.int 0, .int 1]) → Dp K H3 (.ref p2) (.tuple [.int 8, .int (-1), .int 3]) →
      H3 l4 = none → 0 ≤ r → r < 4 → SameBut b (upd H3 l4 (.lst [.ref p1, .ref p2, vz, .non])) H4 → BagAt H4 b c ns (ct + 1) → ∃ v, SqL K H4 l4 [.ref p1, .ref p2, vz, .non] ∧ atI [.ref p1, .ref p2, vz, .non] r = some v ∧ H4 p = some (.lst ys) ∧
      (∀ l1, H4 l1 = none → ∀ l, upd H4 l1 (.lst [v]) l = none → t4 { nx := fun _ H' => Q .non H', rt := Q } [some (.ref b), some (.int hs), x2, x3, some (.ref p), some (.int (m : Nat)), xo, xt, some (.ref l)] (upd (upd H4 l1 (.lst [v])) l (.lst (ys ++ [v])))) := by
    intro vz dz l4 r H4 hz H3 st3 hp3' dp3 d1' d2' hl4 hr0 hr4 s4 B4
    have sn := same_upd (o := .lst [.ref p1, .ref p2, vz, .non]) hl4
    have st3' := st3.same sn
    have st4 := st3'.draw s4 B4
    have e4 : ExtD H3 H4 := (ExtD.of sn).trans (st3'.bag.ext s4)
    have hp4 := e4 p _ (.inl ⟨_, rfl⟩) hp3'
    have dp4 := DpAll.keepD e4 dp3
    obtain ⟨v, dv, hat, hdv, hbad⟩ : ∃ v dv, atI [.ref p1, .ref p2, vz, .non] r = some v ∧ Dp K H4 v dv ∧ (itemD dv = false ∨ ∃ e ∈ its, keyD e = keyD dv) := by
      have cs : r = 0 ∨ r = 1 ∨ r = 2 ∨ r = 3 := by omega
      rcases cs with e | e | e | e <;> subst e
      · exact ⟨_, _, rfl, d1'.keepD e4, .inl rfl⟩
      · exact ⟨_, _, rfl, d2'.keepD e4, .inl rfl⟩
      · rcases hz with ⟨rfl, rfl⟩ | ⟨h1, h2⟩
        · exact ⟨_, _, rfl, .int 5, .inl rfl⟩
        · obtain ⟨v', h3, h4⟩ := dp4.get h2
          rw [h1] at h3
          cases h3
          exact ⟨_, dz, rfl, h4, .inr ⟨dz, List.mem_of_getElem? h2, rfl⟩⟩
      · exact ⟨_, _, rfl, .non, .inl rfl⟩
    refine ⟨v, (st3'.bag.ext s4).sqL (SqL.of upd_same), hat, hp4, fun l1 hl1 l hl => ?_⟩
    have s5 := (same_upd (o := .lst [v]) hl1).trans (same_upd (o := .lst (ys ++ [v])) hl)
    have st5 := st4.same s5
    exact q4 Q b c p ns (ct + 1) hs x2 x3 xo xt (.ref l) ys its (its ++ [dv]) m _ ⟨st5.bag, st5.tab, fun q hq => by
      simp only [List.mem_cons, List.not_mem_nil, or_false] at hq
      subst hq
      exact new_lst (DpAll.append (DpAll.keep (same_upd hl1) dp4) (.cons (hdv.keep (same_upd hl1)) .nil)) hl⟩ (s5 _ _ hp4) (DpAll.keep s5 dp4) hI (not_items hbad) (by rw [List.length_append]; show _ + 1 ≤ 100; omega) hil (by omega) (by omega) hns hQ
  by_cases hne : its = []
  · refine ifF (by rw [hne]; rfl) ⟨(by show 4 ≤ sizeLine; decide), fun l4 hl4 => ⟨_, rfl, b, c, 4, ns, ct, rfl, (st3.same (same_upd hl4)).bag, hct, by omega, by decide, by decide, hns, fun r H4 hr0 hr4 B4 s4 => ?_⟩⟩
    obtain ⟨v, h1, h2, h3, h4⟩ := fin (.int 5) (.int 5) l4 r H4 (.inl ⟨rfl, rfl⟩) _ st3 hp3' dp3 d1' d2' hl4 hr0 hr4 s4 B4
    refine ⟨l4, _, r, v, rfl, rfl, h1, h2, (by show 1 ≤ sizeLine; decide), fun l1 hl1 => ⟨p, l1, ys, [v], rfl, rfl, same_upd hl1 _ _ h3, upd_same, by rw [sizeLine_eq]; show _ + 1 ≤ _; omega, fun l hl => h4 l1 hl1 l hl⟩⟩
  · obtain ⟨d0, rest, rfl⟩ : ∃ d0 rest, its = d0 :: rest := match its, hne with | d0 :: rest, _ => ⟨d0, rest, rfl⟩
    obtain ⟨y0, hy0, _⟩ := dp.get (i := 0) (d := d0) rfl
    refine ifT (by rw [decide_eq_false hne]; rfl) ⟨_, rfl, p, ys, 0, y0, rfl, rfl, SqL.of hp3', atI_nat (j := 0) hy0, (by show 4 ≤ sizeLine; decide), fun l4 hl4 => ⟨_, rfl, b, c, 4, ns, ct, rfl, (st3.same (same_upd hl4)).bag, hct, by omega, by decide, by decide, hns, fun r H4 hr0 hr4 B4 s4 => ?_⟩⟩
    obtain ⟨v, h1, h2, h3, h4⟩ := fin y0 d0 l4 r H4 (.inr ⟨hy0, rfl⟩) _ st3 hp3' dp3 d1' d2' hl4 hr0 hr4 s4 B4
    refine ⟨l4, _, r, v, rfl, rfl, h1, h2, (by show 1 ≤ sizeLine; decide), fun l1 hl1 => ⟨p, l1, ys, [v], rfl, rfl, same_upd hl1 _ _ h3, upd_same, by rw [sizeLine_eq]; show _ + 1 ≤ _; omega, fun l hl => h4 l1 hl1 l hl⟩⟩
end
end K40

namespace K40
open PySem PySem.Spec PyProof.Rows L2 Rg PySem.RingX
theorem clean_rows {rs : List D} (c : Clean rs) : rs.all rowD = true := List.all_eq_true.mpr fun d hd => by
  unfold rowD
  rcases c d hd with h | h <;> rw [h] <;> simp
theorem placed_ring {rs ds : List D} {m : Nat} (h : IsPlaced rs ds m) (hi : itemsL ds = true) (hl : ds.length < m) : ringL rs = true := by
  unfold ringL
  rw [clean_rows h.cl, Bool.true_and]
  refine Bool.and_eq_true_iff.mpr ⟨?_, ?_⟩
  · obtain ⟨i, hi⟩ := open_of h.cl (by rw [h.pm.length_eq, h.len]; exact hl)
    have hm : 0 < rs.length := by rw [h.len]; omega
    exact List.any_eq_true.mpr ⟨_, row_mem hm i, hi⟩
  · rw [keys_perm h.pm]
    unfold itemsL at hi
    exact (Bool.and_eq_true_iff.mp hi).2
theorem placed_lawful {rs ds : List D} {m : Nat} (h : IsPlaced rs ds m) (hm : 0 < m) (x : Str) : Lawful rs x :=
  ⟨fun _ => h.R, fun _ => ⟨fun r => by
    have hl : 0 < rs.length := by rw [h.len]; exact hm
    rcases h.cl _ (row_mem hl r) with z | z
    · rw [emp_none.mp z]; rfl
    · obtain ⟨k, x, c, e, _⟩ := item_parts z
      rw [e]; rfl, h.R, fun _ => h.O⟩⟩
section
variable {P : Program} {w : World} {K : PySem.W.Frag} {mg : Str → Option Value} {base : Heap} {CW CR fW fR : Addr} {T : List (Addr × Str)} {c0 P0 : Addr}
theorem loop_pr {f : Addr} {A : Around} {outer : List Env} {s : Shared} {H : Hp} {E : XK} (hr : Room 9 (A.deeper (envOfC "_law_placed_right" (defScope sPR) s.heap.objs.size f (.ref c0)))) (G : GT mg) (G2 : GT2 mg) (DR : Def P w K mg base CX0 "is_ring" 5 ["value"] (spS K ringD)) (DA : Def P w K mg base (L2.CX P w) "all_items" 7 ["ring"] (spAll K CR)) (DL : Def P w K mg base CX0 "_law_lawful" 1 ["ring", "way"] (spLLaw K)) :
    ∃ t, PSs (xPR P w K mg base f c0 A outer s H E) ((forB ((defBody sPR).getD 2 (.Pass ⟨0, 0, 0, 0⟩))).drop 1) t ∧ ∀ (D : Ends) (b p a : Addr) (hs lo hi : Int) (wx : Str) (xo xt xw : Option V) (ys : List V) (its rs : List Rg.D) (m : Nat) (H1 : Hp),
      H1 p = some (.lst ys) → DpAll K H1 ys its → itemsL its = true → its.length < m → m ≤ 60 → (∀ d ∈ its, Bnd lo hi hs d) → 0 ≤ lo → hi < Big → hs < Big → Dp K H1 (.ref a) (.tuple rs) → IsPlaced rs its.reverse m → (wx = "plain" ∨ wx = "stones" ∨ wx = "sorted") → (∀ H', Same H1 H' → D.nx [some (.ref b), some (.int hs), some (.str wx), some (.ref a), some (.ref p), some (.int (m : Nat)), xo, xt, xw] H') →
      t D [some (.ref b), some (.int hs), some (.str wx), some (.ref a), some (.ref p), some (.int (m : Nat)), xo, xt, xw] H1 := by
  obtain ⟨fR, dR, GR, gR, kR, bR⟩ := DR
  obtain ⟨fA, dA, GA, gA, kA, bA⟩ := DA
  obtain ⟨fL, dL, GL, gL, kL, bL⟩ := DL
  have hu64 : (A.deeper (envOfC "_law_placed_right" (defScope sPR) s.heap.objs.size f (.ref c0))).units + 64 < cLine := by have := hr.un; omega
  have hr5 : Room 5 (A.deeper (envOfC "_law_placed_right" (defScope sPR) s.heap.objs.size f (.ref c0))) := hr.mono (by decide)
  have hr7 : Room 7 (A.deeper (envOfC "_law_placed_right" (defScope sPR) s.heap.objs.size f (.ref c0))) := hr.mono (by decide)
  have hr1 : Room 1 (A.deeper (envOfC "_law_placed_right" (defScope sPR) s.heap.objs.size f (.ref c0))) := hr.mono (by decide)
  refine ⟨_, pss_cons (ps_if (PW.pt (pw_or (pt_not (pt_val (pe_call GR hr5 (by rfl) gR kR bR .nil pass0 (pa_cons (pv 3) pa_nil)))) (pw_or (pt_cmpR op_ne (pe_callB call_len_seq (by rfl) G.len PySem.boot_len (pa_cons (pv 3) pa_nil)) (pv 5) (nomark _)) (pw_or1 (pt_not (pt_val (pe_call GL hr1 (by rfl) gL kL bL .nil pass0 (pa_cons (pv 3) (pa_cons (pv 2) pa_nil)))))))))
      (pss_one (ps_ret pe_bl)) pss_nil)
    (pss_one (ps_if (pt_cmpR (op_neD hu64) (pe_callB (cr_sortA (d := 3) (B := Big) (by decide)) (by rfl) G2.sorted (by decide +kernel) (pa_cons (pe_call (E := E0) GA hr7 (by rfl) gA kA bA .nil passX (pa_cons (pv 3) pa_nil)) pa_nil)) (pe_callB (cr_sortA (d := 3) (B := Big) (by decide)) (by rfl) G2.sorted (by decide +kernel) (pa_cons (pv 4) pa_nil)) (by rfl)) (pss_one (ps_ret pe_bl)) pss_nil)), ?_⟩
  intro D b p a hs lo hi wx xo xt xw ys its rs m H1 hp dp hits hlt hm hbnd hlo hhi hhs da hpl hwx hnx
  have hitr : itemsL its.reverse = true := by
    have pr := List.reverse_perm its
    unfold itemsL at hits ⊢
    rw [pr.all_eq, keys_perm pr]
    exact hits
  have hring : ringL rs = true := placed_ring hpl hitr (by rw [List.length_reverse]; exact hlt)
  have hrl : rs.length = m := hpl.len
  have hS : Short (.tuple rs) := fun ds e => by cases e; omega
  have hpm : (rs.filter isT).Perm its := hpl.pm.trans (List.reverse_perm its)
  refine ⟨_, rfl, .ref a, .tuple rs, rfl, da, hS, fun H2 s2 => ⟨_, rfl, ?_⟩⟩
  refine ifF (by rw [show ringD (.tuple rs) = true from hring]; rfl) ?_
  obtain ⟨a', xs, ea, sq, dx⟩ := dp_tup da
  cases ea
  have hxl := dx.length
  refine ⟨_, rfl, a, xs, rfl, .inr (s2.sqT sq), _, rfl, rfl, _, rfl, ifF (len_eq (by omega)) ?_⟩
  refine ⟨_, rfl, _, rfl, .ref a, rs, wx, rfl, da.keep s2, hring, by omega, hwx, fun bb H3 hb s3 => ⟨_, rfl, ?_⟩⟩
  have hbt : bb = true := hb.mpr (placed_lawful hpl (by omega) wx)
  subst hbt
  refine iteF ?_
  have s13 := s2.trans s3
  refine ⟨_, rfl, .ref a, .tuple rs, rfl, da.keep s13, hS, fun ds e _ x2 H4 d2 s4 => ?_, fun z => by rw [show ringD (.tuple rs) = true from hring] at z; cases z⟩
  cases e
  obtain ⟨a2, xs2, rfl, sq2, dx2⟩ := dp_tup d2
  have s14 := s13.trans s4
  have hl2 : xs2.length < 64 := by rw [dx2.length, hpm.length_eq]; omega
  have hyl := dp.length
  have hb2 : ∀ d ∈ rs.filter isT, Bnd lo hi hs d := fun d hd => hbnd d (hpm.mem_iff.mp hd)
  refine ⟨a2, xs2, rfl, .inr sq2, hl2, fun x hx => ?_, fun ys2 p2 pm2 pw2 hp2 => ?_⟩
  · obtain ⟨d, hd, dxx⟩ := DpAll.mem dx2 hx
    obtain ⟨q1, q2⟩ := bnd_bd (hb2 d hd) hlo hhi hhs
    exact ⟨_, bnd_tup (hb2 d hd) dxx, q2, q1⟩
  · have s5 := same_upd (o := .lst ys2) hp2
    have s15 := s14.trans s5
    have dpi := DpAll.keep s15 dp
    refine ⟨_, rfl, p, ys, rfl, .inl (SqL.of (s15 _ _ hp)), by omega, fun x hx => ?_, fun ys3 p3 pm3 pw3 hp3 => ?_⟩
    · obtain ⟨d, hd, dxx⟩ := DpAll.mem dpi hx
      obtain ⟨q1, q2⟩ := bnd_bd (hbnd d hd) hlo hhi hhs
      exact ⟨_, bnd_tup (hbnd d hd) dxx, q2, q1⟩
    · obtain ⟨es, de, pe⟩ := DpAll.perm pm2 dx2
      obtain ⟨fs, df, pf⟩ := DpAll.perm pm3 dpi
      have so2 := DpAll.sorted de (fun e he => hb2 e (pe.mem_iff.mp he)) pw2
      have so3 := DpAll.sorted df (fun e he => hbnd e (pf.mem_iff.mp he)) pw3
      have same : es = fs := sorted_one hlo hhi hhs hbnd (pe.trans hpm) pf so2 so3
      subst same
      have s6 := same_upd (o := .lst ys3) hp3
      have hshp : Tame (.list es) := tame_lst fun d hd => tame_row (by unfold rowD; rw [items_all hits d ((pf.mem_iff).mp hd), Bool.or_true])
      refine ⟨.list es, .list es, (new_lst de hp2).keep s6, new_lst df hp3, hshp.shaped, hshp.shaped, _, rfl, ?_⟩
      refine ifF (by rw [hshp.rfl_]; rfl) ?_
      exact hnx _ (s15.trans s6)
end
end K40

namespace K40
open PySem PySem.Spec PyProof.Rows L2 Rg PySem.RingX
section
variable {P : Program} {w : World} {K : PySem.W.Frag} {mg : Str → Option Value} {base : Heap} {CW CR fW fR : Addr} {T : List (Addr × Str)} {c0 P0 : Addr}
theorem DpAll.reverse {H : Hp} {vs : List V} {ds : List D} (h : DpAll K H vs ds) : DpAll K H vs.reverse ds.reverse := by
  have key : ∀ {us : List V} {es : List D}, DpAll K H us es → DpAll K H us.reverse es.reverse := by
    intro us
    induction us with
    | nil => intro es h; cases h; exact .nil
    | cons u us ih =>
      intro es h
      cases h with
      | cons h t =>
        rw [List.reverse_cons, List.reverse_cons]
        exact DpAll.snoc (ih t) h
  exact key h
def spPR (K : PySem.W.Frag) (T : List (Addr × Str)) : Sp := fun vs H Q _ => ∃ (b c : Addr) (hs : Int) (ns : List Int) (ct : Int), vs = [.ref b, .int hs] ∧ Stt K T b c ns ct [] H ∧ 0 ≤ ct ∧ ct < 700000 ∧ ns.length < 1000 ∧ 0 < hs ∧ hs < 2 ^ 200 ∧ ∀ H', Q (.bl true) H'
theorem ok_pr (R0 : Raw K mg "_law_placed_right" sPR ["bag", "hashes"]) (hcode : ∀ f fd, mg "_law_placed_right" = some (.ref f) → Fun K "_law_placed_right" "_law_placed_right" sPR f fd → fd.code = .ref c0) (G : GT mg) (G2 : GT2 mg) (R : Raw K mg "_law_refused" sRef ["action"]) (EXt : EX P K mg CW CR fW fR) (S : Rel2 K CW CR) (L : Lam base mg T c0 P0 "_law_placed_right.<locals>.<lambda>") (DP : Def P w K mg base (L2.CX P w) "placed" 5 ["items", "many", "way"] (spPlaced K CW CR)) (DD : DDraw P w K mg base)
    (DI : Def P w K mg base CX0 "_law_items" 2 ["bag", "many", "hashes", "first"] (spLItems K)) (DR : Def P w K mg base CX0 "is_ring" 5 ["value"] (spS K ringD)) (DA : Def P w K mg base (L2.CX P w) "all_items" 7 ["ring"] (spAll K CR)) (DL : Def P w K mg base CX0 "_law_lawful" 1 ["ring", "way"] (spLLaw K)) :
    Def P w K mg base CX0 "_law_placed_right" 10 ["bag", "hashes"] (spPR K T) := by
  obtain ⟨f, fd, F, g, bb⟩ := R0
  refine ⟨f, fd, F.okC (hcode f fd g F) scPR (fun vs H Q E h => ?_) (fun A outer s H vs Q E hr h => ?_), g, F.kp, bb⟩
  · obtain ⟨b, c, hs, ns, ct, rfl, _⟩ := h
    rfl
  · obtain ⟨b, c, hs, ns, ct, rfl, st, hct, hct2, hns, hh, hh2, hQ⟩ := h
    obtain ⟨t3, p3, q3⟩ := mid1_pr (A := A) (outer := outer) (s := s) (H := H) (E := E) (f := f) hr G R EXt S L DP DD
    obtain ⟨tl, pl, ql⟩ := loop_pr (c0 := c0) (A := A) (outer := outer) (s := s) (H := H) (E := E) (f := f) hr G G2 DR DA DL
    obtain ⟨fD, dD, GD, gD, kD, bD⟩ := DD
    obtain ⟨fI, dI, GI, gI, kI, bI⟩ := DI
    obtain ⟨fP, dP, GP, gP, kP, bP⟩ := DP
    have hr1 : Room 1 (A.deeper (envOfC "_law_placed_right" (defScope sPR) s.heap.objs.size f (.ref c0))) := hr.mono (by decide)
    have hr2 : Room 2 (A.deeper (envOfC "_law_placed_right" (defScope sPR) s.heap.objs.size f (.ref c0))) := hr.mono (by decide)
    have hr5 : Room 5 (A.deeper (envOfC "_law_placed_right" (defScope sPR) s.heap.objs.size f (.ref c0))) := hr.mono (by decide)
    refine ⟨_, pss_cons (ps_set (i := 4) scPR.nd rfl (Or.inr rfl) (pe_call GI hr2 (by rfl) gI kI bI .nil pass0 (pa_cons (pv 0) (pa_cons (pe_call GD hr1 (by rfl) gD kD bD .nil pass0 (pa_cons (pv 0) (pa_cons pe_int pa_nil))) (pa_cons (pv 1) (pa_cons pe_int pa_nil))))))
      (pss_cons (ps_set (i := 5) scPR.nd rfl (Or.inr rfl) (pe_op op_add (pe_op op_add (pe_callB call_len_seq (by rfl) G.len PySem.boot_len (pa_cons (pv 4) pa_nil)) pe_int) (pe_call GD hr1 (by rfl) gD kD bD .nil pass0 (pa_cons (pv 0) (pa_cons pe_int pa_nil)))))
      (pss_cons (ps_for PassesOwn.never rfl (pi_list (pe_lst (pa_cons pe_str (pa_cons pe_str (pa_cons pe_str pa_nil))))) (pg_name (i := 2) scPR.nd rfl (Or.inl rfl))
        (pss_cons (ps_set (i := 3) scPR.nd rfl (Or.inl rfl) (pe_call (E := E0) GP hr5 (by rfl) gP kP bP .nil passX (pa_cons (pe_ifExp (pt_cmpR op_eq (pe_op op_mod (pv 5) pe_int) pe_int (nomark _)) (pe_tupleOf (by rfl) G.tup (pe_revL (pv 4))) (pe_revL (pv 4))) (pa_cons (pv 5) (pa_cons (pv 2) pa_nil))))) pl)) p3)), ?_⟩
    refine ⟨_, rfl, _, rfl, b, c, 9, ns, ct, rfl, st.bag, hct, by omega, by decide, by decide, hns, fun r1 H1 hr10 hr11 B1 s1 => ?_⟩
    have st1 := st.draw s1 B1
    obtain ⟨n, en⟩ : ∃ n : Nat, r1 = (n : Int) := ⟨r1.toNat, by omega⟩
    subst en
    refine ⟨_, rfl, b, c, n, hs, 5, ns, _, rfl, B1, by omega, by omega, by omega, hh, hh2, hns, fun p ys its H2 hp hp2 dp2 hil hits hbnd B2 s2 => ?_⟩
    have st2 := st1.draw s2 B2
    have hyl := dp2.length
    refine ⟨_, rfl, p, ys, rfl, .inl (SqL.of hp2), _, _, rfl, rfl, _, rfl, b, c, 4, ns, _, rfl, B2, by omega, by omega, by decide, by decide, hns, fun r2 H3 hr20 hr21 B3 s3 => ⟨_, _, rfl, rfl, ?_⟩⟩
    have e3 := B2.ext s3
    have st3 := st2.draw s3 B3
    have hp3 := e3 p _ (.inl ⟨_, rfl⟩) hp2
    have dp3 := DpAll.keepD e3 dp2
    obtain ⟨m, em⟩ : ∃ m : Nat, (ys.length : Int) + 1 + r2 = (m : Int) := ⟨((ys.length : Int) + 1 + r2).toNat, by omega⟩
    show gName 5 (V.int ((ys.length : Int) + 1 + r2)) _ _ _
    rw [em]
    have hIts : Its its m := ⟨hits, by omega, by omega⟩
    refine ⟨(by show 3 ≤ sizeLine; decide), fun lw hlw => ?_⟩
    have s4 := same_upd (o := .lst [V.str "plain", V.str "stones", V.str "sorted"]) hlw
    have hp4 := s4 _ _ hp3
    have dp4 := DpAll.keep s4 dp3
    refine ⟨lw, rfl, ⟨_, SqL.of upd_same⟩, for_list (xs := [V.str "plain", V.str "stones", V.str "sorted"]) (fun i σ H' => (∃ x2 x3, σ = [some (V.ref b), some (V.int hs), x2, x3, some (V.ref p), some (V.int (m : Nat)), none, none, none]) ∧ Same (upd H3 lw (.lst [V.str "plain", V.str "stones", V.str "sorted"])) H') ⟨⟨_, _, rfl⟩, Same.refl _⟩ (fun i σ H' _ h => h.2.seq (SqL.of upd_same)) ?_ ?_⟩
    · rintro i x σ H5 hx ⟨⟨x2, x3, rfl⟩, s5⟩
      obtain ⟨wx, rfl, hwx⟩ : ∃ wx : Str, x = .str wx ∧ (wx = "plain" ∨ wx = "stones" ∨ wx = "sorted") := by
        have hi3 : i < 3 := (List.getElem?_eq_some_iff.mp hx).1
        have cs : i = 0 ∨ i = 1 ∨ i = 2 := by omega
        rcases cs with e | e | e <;> subst e <;> cases hx
        · exact ⟨_, rfl, .inl rfl⟩
        · exact ⟨_, rfl, .inr (.inl rfl)⟩
        · exact ⟨_, rfl, .inr (.inr rfl)⟩
      have hp5 := s5 _ _ hp4
      have dp5 := DpAll.keep s5 dp4
      have hitr : itemsL its.reverse = true := by
        have pr := List.reverse_perm its
        unfold itemsL at hits ⊢
        rw [pr.all_eq, keys_perm pr]
        exact hits
      have hway : wayD (.str wx) = true := by rcases hwx with e | e | e <;> rw [e] <;> kernel_rfl
      have hlt := hIts.lt
      have hB : (2 : Int) ^ 200 < Big := by decide
      -- behind placed
      have fin : ∀ (x : V) (rs : List Rg.D) (H7 : Hp) (D : Ends), Dp K H7 x (.tuple rs) → IsPlaced rs its.reverse m → Same H5 H7 → (∀ a H', Same H7 H' → D.nx [some (V.ref b), some (V.int hs), some (.str wx), some (.ref a), some (V.ref p), some (V.int (m : Nat)), none, none, none] H') →
          tl D [some (V.ref b), some (V.int hs), some (.str wx), some x, some (V.ref p), some (V.int (m : Nat)), none, none, none] H7 := by
        intro x rs H7 D dx hpl s7 hnx
        obtain ⟨a, xs, rfl, _, _⟩ := dp_tup dx
        exact ql D b p a hs 3 (5 + 3 * n) wx none none none ys its rs m H7 (s7 _ _ hp5) (DpAll.keep s7 dp5) hits hlt (by omega) hbnd (by decide) (by omega) (by omega) dx hpl hwx fun H' s' => hnx a H' s'
      refine ⟨_, rfl, _, _, rfl, rfl, (by show (0 : Int) < 2; decide), rfl, _, rfl, ?_⟩
      refine ite2 (fun c1 => ?_) (fun c1 => ?_)
      · refine ⟨_, rfl, p, ys, rfl, SqL.of hp5, fun pr hpr => .inl ⟨pr, ys.reverse, rfl, SqL.of upd_same, fun q hq => ?_⟩⟩
        have g1 := same_upd (o := .lst ys.reverse) hpr
        have g2 := same_upd (o := .tup ys.reverse) hq
        have dq : Dp K _ (.ref q) (.tuple its.reverse) := new_tup (DpAll.keep g1 (DpAll.reverse dp5)) hq
        refine ⟨_, rfl, _, rfl, .ref q, m, .str wx, .str wx, rfl, .str _, (fun _ e => nomatch e), by omega, .inl ⟨_, its.reverse, dq, .inl rfl, by rw [List.length_reverse]; omega, fun _ _ _ x7 H7 rs d7 hpl s7 => ?_, (fun _ _ h => by rw [hway] at h; cases h), fun h => absurd ⟨hitr, by rw [List.length_reverse]; exact hlt⟩ h⟩⟩
        exact fin x7 rs H7 _ d7 hpl ((g1.trans g2).trans s7) fun a H' s' => ⟨⟨_, _, rfl⟩, s5.trans (((g1.trans g2).trans s7).trans s')⟩
      · refine ⟨_, rfl, p, ys, rfl, SqL.of hp5, fun pr hpr => ?_⟩
        have g1 := same_upd (o := .lst ys.reverse) hpr
        have dq : Dp K _ (.ref pr) (.list its.reverse) := new_lst (DpAll.reverse dp5) hpr
        refine ⟨_, rfl, _, rfl, .ref pr, m, .str wx, .str wx, rfl, .str _, (fun _ e => nomatch e), by omega, .inl ⟨_, its.reverse, dq, .inr rfl, by rw [List.length_reverse]; omega, fun _ _ _ x7 H7 rs d7 hpl s7 => ?_, (fun _ _ h => by rw [hway] at h; cases h), fun h => absurd ⟨hitr, by rw [List.length_reverse]; exact hlt⟩ h⟩⟩
        exact fin x7 rs H7 _ d7 hpl (g1.trans s7) fun a H' s' => ⟨⟨_, _, rfl⟩, s5.trans ((g1.trans s7).trans s')⟩
    · rintro σ H5 ⟨⟨x2, x3, rfl⟩, s5⟩
      have st5 := (st3.same s4).same s5
      exact q3 Q b c p ns _ hs x2 x3 none none none ys its m H5 st5 (s5 _ _ hp4) (DpAll.keep s5 dp4) hIts (by omega) (by omega) (by omega) hns hQ
end
end K40

namespace K40
open PySem PySem.Spec PyProof.Rows L2 Rg PySem.RingX
abbrev sLaw : Stmt := top 38
abbrev nLaw : List Str := ["script", "bag", "hashes", "way", "many", "each", "item", "told", "one", "other", "odd", "ring", "strange", "row"]
theorem scLaw : FnScope nLaw ["script"] (defScope sLaw) := ⟨rfl, rfl, rfl, by decide +kernel, rfl, by decide +kernel, by decide +kernel⟩
def strangeL : List D := [.str "never", .str "", .none, .int 0, .list [.str "plain"], .str "Plain"]
theorem strange_no {d : D} (h : d ∈ strangeL) : wayD d = false ∧ Short d := by
  have : strangeL.all (fun d => !wayD d && !isT d) = true := by kernel_rfl
  have z := List.all_eq_true.mp this d h
  simp only [Bool.and_eq_true, Bool.not_eq_true'] at z
  exact ⟨z.1, fun ds e => by rw [e] at z; cases z.2⟩
section
variable {P : Program} {w : World} {K : PySem.W.Frag} {mg : Str → Option Value} {base : Heap} {CW CR fW fR : Addr} {T : List (Addr × Str)} {c1 P1 : Addr}
abbrev xLaw (P : Program) (w : World) (K : PySem.W.Frag) (mg : Str → Option Value) (base : Heap) (f c1 : Addr) (A : Around) (outer : List Env) (s : Shared) (H : Hp) (E : XK) : Cx := (cxOf CX0 P w K mg base nLaw "law" (defScope sLaw) f (.ref c1) A outer s H E).nox
theorem lawA {f : Addr} {A : Around} {outer : List Env} {s : Shared} {H : Hp} {E : XK} (hr : Room 11 (A.deeper (envOfC "law" (defScope sLaw) s.heap.objs.size f (.ref c1)))) (G : GT mg) (R : Raw K mg "_law_refused" sRef ["action"]) (EXt : EX P K mg CW CR fW fR) (S : Rel2 K CW CR) (L : Lam base mg T c1 P1 "law.<locals>.<lambda>") (DD : DDraw P w K mg base)
    (DR : Def P w K mg base CX0 "is_ring" 5 ["value"] (spS K ringD)) (DSp : Def P w K mg base CX0 "_law_spoiled" 2 ["bag", "ring"] (spSpoil K)) (DLw : Def P w K mg base (L2.CX P w) "is_lawful" 9 ["ring", "way"] (spLawful K CW CR)) (DRu : Def P w K mg base (L2.CX P w) "runs" 7 ["ring"] (spRuns K CR)) (DA : Def P w K mg base (L2.CX P w) "all_items" 7 ["ring"] (spAll K CR)) (DPR : Def P w K mg base CX0 "_law_placed_right" 10 ["bag", "hashes"] (spPR K T)) :
    ∃ t, PSs (xLaw P w K mg base f c1 A outer s H E) ((defBody sLaw).drop 14) t ∧ ∀ (Q : VK) (b c : Addr) (ns : List Int) (ct hs : Int) (x0 x3 x4 x5 x6 x7 x8 x9 xo xs xr : Option V) (vr : V) (ds : List D) (H1 : Hp),
      Stt K T b c ns ct [(vr, .tuple ds)] H1 → ringL ds = true → ds.length ≤ 12 → 0 ≤ ct → ct < 600000 → ns.length < 1000 → 0 < hs → hs < 2 ^ 200 → (∀ H', Q (.bl true) H') → t { nx := fun _ H' => Q .non H', rt := Q } [x0, some (.ref b), some (.int hs), x3, x4, x5, x6, x7, x8, x9, xo, some vr, xs, xr] H1 := by
  obtain ⟨fD, dD, GD, gD, kD, bD⟩ := DD
  obtain ⟨fR', dR, GR, gR, kR, bR⟩ := DR
  obtain ⟨fS, dS, GS, gS, kS, bS⟩ := DSp
  obtain ⟨fL, dL, GL, gL, kL, bL⟩ := DLw
  obtain ⟨fU, dU, GU, gU, kU, bU⟩ := DRu
  obtain ⟨fA, dA, GA, gA, kA, bA⟩ := DA
  obtain ⟨fP, dP, GP, gP, kP, bP⟩ := DPR
  have hu : (A.deeper (envOfC "law" (defScope sLaw) s.heap.objs.size f (.ref c1))).units < cLine := by have := hr.un; omega
  have hr1 : Room 1 (A.deeper (envOfC "law" (defScope sLaw) s.heap.objs.size f (.ref c1))) := hr.mono (by decide)
  have hr2 : Room 2 (A.deeper (envOfC "law" (defScope sLaw) s.heap.objs.size f (.ref c1))) := hr.mono (by decide)
  have hr5 : Room 5 (A.deeper (envOfC "law" (defScope sLaw) s.heap.objs.size f (.ref c1))) := hr.mono (by decide)
  have hr10 : Room 10 (A.deeper (envOfC "law" (defScope sLaw) s.heap.objs.size f (.ref c1))) := hr.mono (by decide)
  refine ⟨_, pss_cons (ps_set (i := 10) scLaw.nd rfl (Or.inr rfl) (pe_call GS hr2 (by rfl) gS kS bS .nil pass0 (pa_cons (pv 1) (pa_cons (pv 11) pa_nil))))
    (pss_cons (ps_if (PW.pt (pw_or (pt_cmpR op_notBl (pe_call GR hr5 (by rfl) gR kR bR .nil pass0 (pa_cons (pv 10) pa_nil)) pe_bl (nomark _))
        (pw_or1 (pt_cmpR (op_neS hu) (pe_ref (T := T) (k := 9) (t := fun E => tCall (spLawful K CW CR) [] E (tCons (tVar 10) (tCons (tC (.str "never")) tNil))) (by rfl) R EXt S L.tb rfl L.mem L.uniq hr (LamX.lamS_by (by kernel_rfl))
          (fun A outer s H E f c' hr => pe_call (E := E) GL hr (by rfl) gL kL bL .nil (passes_call (takes_of rfl rfl rfl rfl) (fun _ _ _ _ z => z)) (pa_cons (pv 10) (pa_cons pe_str pa_nil)))) (pe_tup (pa_cons pe_str (pa_cons (pv 10) pa_nil))) (by rfl))))) (pss_one (ps_ret pe_bl)) pss_nil)
    (pss_cons (ps_if (pt_cmpR (op_neS hu) (pe_ref (T := T) (k := 7) (t := fun E => tCall (spRuns K CR) [] E (tCons (tVar 10) tNil)) (by rfl) R EXt S L.tb rfl L.mem L.uniq (hr.mono (by decide)) (LamX.lamS_by (by kernel_rfl))
          (fun A outer s H E f c' hr => pe_call (E := E) GU hr (by rfl) gU kU bU .nil (passes_call (takes_of rfl rfl rfl rfl) (fun _ _ _ _ z => z)) (pa_cons (pv 10) pa_nil))) (pe_tup (pa_cons pe_str (pa_cons (pv 10) pa_nil))) (by rfl)) (pss_one (ps_ret pe_bl)) pss_nil)
    (pss_cons (ps_if (pt_cmpR (op_neS hu) (pe_ref (T := T) (k := 7) (t := fun E => tCall (spAll K CR) [] E (tCons (tVar 10) tNil)) (by rfl) R EXt S L.tb rfl L.mem L.uniq (hr.mono (by decide)) (LamX.lamS_by (by kernel_rfl))
          (fun A outer s H E f c' hr => pe_call (E := E) GA hr (by rfl) gA kA bA .nil (passes_call (takes_of rfl rfl rfl rfl) (fun _ _ _ _ z => z)) (pa_cons (pv 10) pa_nil))) (pe_tup (pa_cons pe_str (pa_cons (pv 10) pa_nil))) (by rfl)) (pss_one (ps_ret pe_bl)) pss_nil)
    (pss_cons (ps_set (i := 12) scLaw.nd rfl (Or.inr rfl) (pe_ix ix_list (pe_lst (pa_cons pe_str (pa_cons pe_str (pa_cons pe_non (pa_cons pe_int (pa_cons (pe_lst (pa_cons pe_str pa_nil)) (pa_cons pe_str pa_nil))))))) (pe_call GD hr1 (by rfl) gD kD bD .nil pass0 (pa_cons (pv 1) (pa_cons pe_int pa_nil))) (fun _ _ => rfl)))
    (pss_cons (ps_if (pt_cmpR (op_neS hu) (pe_ref (T := T) (k := 9) (t := fun E => tCall (spLawful K CW CR) [] E (tCons (tVar 11) (tCons (tVar 12) tNil))) (by rfl) R EXt S L.tb rfl L.mem L.uniq hr (LamX.lamS_by (by kernel_rfl))
          (fun A outer s H E f c' hr => pe_call (E := E) GL hr (by rfl) gL kL bL .nil (passes_call (takes_of rfl rfl rfl rfl) (fun _ _ _ _ z => z)) (pa_cons (pv 11) (pa_cons (pv 12) pa_nil)))) (pe_tup (pa_cons pe_str (pa_cons (pv 12) pa_nil))) (by rfl)) (pss_one (ps_ret pe_bl)) pss_nil)
    (pss_one (ps_ret (pe_call GP hr10 (by rfl) gP kP bP .nil pass0 (pa_cons (pv 1) (pa_cons (pv 2) pa_nil)))))))))), ?_⟩
  intro Q b c ns ct hs x0 x3 x4 x5 x6 x7 x8 x9 xo xs xr vr ds H1 st hring hl hct hct2 hns hh hh2 hQ
  have dr := st.dat (vr, .tuple ds) (by simp)
  -- odd
  refine ⟨_, rfl, _, rfl, b, c, vr, ds, ns, ct, rfl, st.bag, dr, hring, hl, hct, by omega, hns, fun vo dd H2 dv hno htame hshort B2 s2 => ?_⟩
  have st2 := (st.draw s2 B2).add dv
  refine ⟨_, rfl, vo, dd, rfl, dv, hshort, fun H3 s3 => ⟨_, _, rfl, rfl, _, rfl, ?_⟩⟩
  rw [hno]
  refine ifF rfl ?_
  have st3 := st2.same s3
  have pl := dp_plain dv
  -- is_lawful
  refine ⟨st3.tab, fun H4 e4 t4 => ?_⟩
  have st4 := st3.ofN e4 t4
  refine ⟨_, rfl, vo, .str "never", dd, .str "never", rfl, st4.dat (vo, dd) (by simp), .str _, hshort, (fun _ e => nomatch e), (fun ds' x e1 e2 => by rw [e1] at hno; rw [show ringD (.tuple ds') = ringL ds' from rfl, e2] at hno; cases hno), (fun _ => told_ring (K := K) fun H5 p1 s5 sq5 => ?_), fun z => by rw [hno] at z; cases z⟩
  refine ⟨_, rfl, (by show 2 ≤ sizeLine; decide), fun p2 hp2 => ⟨p1, p2, [.str "ring", vo], rfl, rfl, (same_upd hp2).sqT sq5, SqT.of upd_same, plain2 pl, _, rfl, ifF rfl ?_⟩⟩
  have st5 := st4.same (s5.trans (same_upd (o := .tup [V.str "ring", vo]) hp2))
  -- runs
  refine ⟨st5.tab, fun H6 e6 t6 => ?_⟩
  have st6 := st5.ofN e6 t6
  refine ⟨_, rfl, vo, dd, rfl, st6.dat (vo, dd) (by simp), hshort, (fun ds' e1 e2 => by rw [e1] at hno; rw [show ringD (.tuple ds') = ringL ds' from rfl, e2] at hno; cases hno), fun _ => told_ring (K := K) fun H7 p3 s7 sq7 => ?_⟩
  refine ⟨_, rfl, (by show 2 ≤ sizeLine; decide), fun p4 hp4 => ⟨p3, p4, [.str "ring", vo], rfl, rfl, (same_upd hp4).sqT sq7, SqT.of upd_same, plain2 pl, _, rfl, ifF rfl ?_⟩⟩
  have st7 := st6.same (s7.trans (same_upd (o := .tup [V.str "ring", vo]) hp4))
  -- all_items
  refine ⟨st7.tab, fun H8 e8 t8 => ?_⟩
  have st8 := st7.ofN e8 t8
  refine ⟨_, rfl, vo, dd, rfl, st8.dat (vo, dd) (by simp), hshort, (fun ds' e1 e2 => by rw [e1] at hno; rw [show ringD (.tuple ds') = ringL ds' from rfl, e2] at hno; cases hno), fun _ => told_ring (K := K) fun H9 p5 s9 sq9 => ?_⟩
  refine ⟨_, rfl, (by show 2 ≤ sizeLine; decide), fun p6 hp6 => ⟨p5, p6, [.str "ring", vo], rfl, rfl, (same_upd hp6).sqT sq9, SqT.of upd_same, plain2 pl, _, rfl, ifF rfl ?_⟩⟩
  have st9 := st8.same (s9.trans (same_upd (o := .tup [V.str "ring", vo]) hp6))
  -- strange
  refine ⟨(by show 1 ≤ sizeLine; decide), fun p7 hp7 => ⟨(by show 6 ≤ sizeLine; decide), fun p8 hp8 => ?_⟩⟩
  have g1 := same_upd (o := .lst [V.str "plain"]) hp7
  have g2 := same_upd (o := .lst [V.str "never", .str "", .non, .int 0, .ref p7, .str "Plain"]) hp8
  have d7 : Dp K _ (.ref p7) (.list [.str "plain"]) := new_lst (.cons (.str "plain") .nil) hp7
  have d8 : Dp K _ (.ref p8) (.list strangeL) := new_lst (.cons (.str "never") (.cons (.str "") (.cons .non (.cons (.int 0) (.cons d7 (.cons (.str "Plain") .nil)))))) hp8
  have st10 := st9.same (g1.trans g2)
  refine ⟨_, rfl, b, c, 6, ns, _, rfl, st10.bag, by omega, by omega, by decide, by decide, hns, fun r H11 hr0 hr6 B11 s11 => ?_⟩
  refine ixL_ok (d8.keepD (st10.bag.ext s11)) hr0 hr6 fun vs dS hmem dvs => ?_
  have st11 := (st10.draw s11 B11).add dvs
  obtain ⟨hnw, hsh⟩ := strange_no hmem
  refine ⟨st11.tab, fun H12 e12 t12 => ?_⟩
  have st12 := st11.ofN e12 t12
  have hrt : ringD (.tuple ds) = true := hring
  refine ⟨_, rfl, _, rfl, vr, vs, .tuple ds, dS, rfl, st12.dat (vr, .tuple ds) (by simp), st12.dat (vs, dS) (by simp), (fun ds' e => by cases e; omega), hsh, (fun ds' x _ _ e z => by rw [hnw] at z; cases z), (fun z => by rw [hrt] at z; cases z), fun _ _ => told_way (K := K) fun H13 p9 s13 sq13 => ?_⟩
  refine ⟨_, rfl, (by show 2 ≤ sizeLine; decide), fun p10 hp10 => ⟨p9, p10, [.str "way", vs], rfl, rfl, (same_upd hp10).sqT sq13, SqT.of upd_same, plain2 (dp_plain dvs), _, rfl, ifF rfl ?_⟩⟩
  have st13 := st12.same (s13.trans (same_upd (o := .tup [V.str "way", vs]) hp10))
  exact ⟨_, rfl, _, rfl, b, c, hs, ns, _, rfl, ⟨st13.bag, st13.tab, fun q hq => nomatch hq⟩, by omega, by omega, hns, hh, hh2, hQ⟩
end
end K40

namespace K40
open PySem PySem.Spec PyProof.Rows L2 Rg PySem.RingX
theorem tame_pq (q : Nat × Nat) : Tame (pq q) ∧ (pq q).depth ≤ 3 := by
  have h : Tame (pq q) := tame_tup fun d hd => by
    simp only [List.mem_cons, List.not_mem_nil, or_false] at hd
    rcases hd with e | e <;> subst e <;> exact ⟨⟨rfl, by simp [PyData.depth], by simp [PyData.eqv]⟩, by simp [PyData.depth]⟩
  refine ⟨h, ?_⟩
  simp [pq, PyData.depth, PyData.depthAll]
theorem tame_runs (ds : List D) : Tame (.list ((runs ds).map pq)) := tame_lst fun d hd => by
  obtain ⟨q, _, rfl⟩ := List.mem_map.mp hd
  exact tame_pq q
theorem step_on {a b m : Int} (h0 : 0 ≤ b) (h1 : b < m) : (a + (b - a) % m) % m = b := by
  rw [Int.add_emod_emod, show a + (b - a) = b by omega, Int.emod_eq_of_lt h0 h1]
section
variable {P : Program} {w : World} {K : PySem.W.Frag} {mg : Str → Option Value} {base : Heap} {CW CR fW fR : Addr} {T : List (Addr × Str)} {c1 P1 : Addr}
theorem lawB {f : Addr} {A : Around} {outer : List Env} {s : Shared} {H : Hp} {E : XK} (hr : Room 11 (A.deeper (envOfC "law" (defScope sLaw) s.heap.objs.size f (.ref c1)))) (G : GT mg) (DD : DDraw P w K mg base) (DDi : Def P w K mg base CX0 "distance" 1 ["one", "other", "many"] spDist)
    (DRu : Def P w K mg base (L2.CX P w) "runs" 7 ["ring"] (spRuns K CR)) (DLR : Def P w K mg base CX0 "_law_runs" 1 ["ring"] (spLRuns K))
    {tA : TS} (pA : PSs (xLaw P w K mg base f c1 A outer s H E) ((defBody sLaw).drop 14) tA)
    (qA : ∀ (Q : VK) (b c : Addr) (ns : List Int) (ct hs : Int) (x0 x3 x4 x5 x6 x7 x8 x9 xo xs xr : Option V) (vr : V) (ds : List D) (H1 : Hp),
      Stt K T b c ns ct [(vr, .tuple ds)] H1 → ringL ds = true → ds.length ≤ 12 → 0 ≤ ct → ct < 600000 → ns.length < 1000 → 0 < hs → hs < 2 ^ 200 → (∀ H', Q (.bl true) H') → tA { nx := fun _ H' => Q .non H', rt := Q } [x0, some (.ref b), some (.int hs), x3, x4, x5, x6, x7, x8, x9, xo, some vr, xs, xr] H1) :
    ∃ t, PSs (xLaw P w K mg base f c1 A outer s H E) ((defBody sLaw).drop 8) t ∧ ∀ (Q : VK) (b c : Addr) (ns : List Int) (ct hs : Int) (x0 x3 x5 x6 x7 x8 x9 xo xs xr : Option V) (vr : V) (ds : List D) (H1 : Hp),
      Stt K T b c ns ct [(vr, .tuple ds)] H1 → ringL ds = true → ds.length ≤ 12 → 0 ≤ ct → ct < 500000 → ns.length < 1000 → 0 < hs → hs < 2 ^ 200 → (∀ H', Q (.bl true) H') → t { nx := fun _ H' => Q .non H', rt := Q } [x0, some (.ref b), some (.int hs), x3, some (.int (ds.length : Nat)), x5, x6, x7, x8, x9, xo, some vr, xs, xr] H1 := by
  obtain ⟨fD, dD, GD, gD, kD, bD⟩ := DD
  obtain ⟨fI, dI, GI, gI, kI, bI⟩ := DDi
  obtain ⟨fU, dU, GU, gU, kU, bU⟩ := DRu
  obtain ⟨fL, dL, GL, gL, kL, bL⟩ := DLR
  have hu64 : (A.deeper (envOfC "law" (defScope sLaw) s.heap.objs.size f (.ref c1))).units + 64 < cLine := by have := hr.un; omega
  have hr1 : Room 1 (A.deeper (envOfC "law" (defScope sLaw) s.heap.objs.size f (.ref c1))) := hr.mono (by decide)
  have hr7 : Room 7 (A.deeper (envOfC "law" (defScope sLaw) s.heap.objs.size f (.ref c1))) := hr.mono (by decide)
  refine ⟨_, pss_cons (ps_set (i := 7) scLaw.nd rfl (Or.inl rfl) (pe_call (E := E0) GU hr7 (by rfl) gU kU bU .nil passX (pa_cons (pv 11) pa_nil)))
    (pss_cons (ps_if (pt_cmpR (op_neD hu64) (pv 7) (pe_call GL hr1 (by rfl) gL kL bL .nil pass0 (pa_cons (pv 11) pa_nil)) (by rfl)) (pss_one (ps_ret pe_bl)) pss_nil)
    (pss_cons (ps_expr (pe_bm0 PySem.F.plainAttrs_list PySem.F.slot_list_clear PySem.F.type_list_clear mt_clear (pv 7)))
    (pss_cons (ps_if (pt_cmpR (op_neD hu64) (pe_call (E := E0) GU hr7 (by rfl) gU kU bU .nil passX (pa_cons (pv 11) pa_nil)) (pe_call GL hr1 (by rfl) gL kL bL .nil pass0 (pa_cons (pv 11) pa_nil)) (by rfl)) (pss_one (ps_ret pe_bl)) pss_nil)
    (pss_cons (ps_par (by rfl) scLaw.nd (i := 8) (j := 9) rfl rfl (by decide) rfl rfl (pa_cons (pe_call GD hr1 (by rfl) gD kD bD .nil pass0 (pa_cons (pv 1) (pa_cons (pv 4) pa_nil))) (pa_cons (pe_call GD hr1 (by rfl) gD kD bD .nil pass0 (pa_cons (pv 1) (pa_cons (pv 4) pa_nil))) pa_nil)) (by rfl))
    (pss_cons (ps_if (PW.pt (pw_or (pt_cmpR op_ne (pe_op op_mod (pe_op op_add (pv 8) (pe_call GI hr1 (by rfl) gI kI bI .nil pass0 (pa_cons (pv 8) (pa_cons (pv 9) (pa_cons (pv 4) pa_nil))))) (pv 4)) (pv 9) (nomark _))
        (pw_or1 (pt_not (pt_chain op_le op_lt pe_int (pe_call GI hr1 (by rfl) gI kI bI .nil pass0 (pa_cons (pv 8) (pa_cons (pv 9) (pa_cons (pv 4) pa_nil)))) (pv 4)))))) (pss_one (ps_ret pe_bl)) pss_nil) pA))))), ?_⟩
  intro Q b c ns ct hs x0 x3 x5 x6 x7 x8 x9 xo xs xr vr ds H1 st hring hl hct hct2 hns hh hh2 hQ
  have dr := st.dat (vr, .tuple ds) (by simp)
  have hS : Short (.tuple ds) := fun ds' e => by cases e; omega
  have hrt : ringD (.tuple ds) = true := hring
  have hpos := (ring_open hring).2
  have hsh := tame_runs ds
  -- told
  refine ⟨_, rfl, vr, .tuple ds, rfl, dr, hS, fun ds' e _ p ys H2 hp hp2 dp2 s2 => ?_, fun z => by rw [hrt] at z; cases z⟩
  cases e
  have d2 : Dp K H2 (.ref p) (.list ((runs ds).map pq)) := .lst (SqL.of hp2) (DpAll.keep same_del dp2)
  refine ⟨_, rfl, _, rfl, vr, ds, rfl, dr.keep s2, hring, by omega, fun p' ys' H3 hp' hp3 dp3 s3 => ?_⟩
  have d3 : Dp K H3 (.ref p') (.list ((runs ds).map pq)) := .lst (SqL.of hp3) (DpAll.keep same_del dp3)
  refine ⟨_, _, d2.keep s3, d3, hsh.shaped, hsh.shaped, _, rfl, ?_⟩
  refine ifF (by rw [hsh.rfl_]; rfl) ?_
  -- told.clear()
  have hp2' := s3 _ _ hp2
  refine ⟨_, rfl, .inl ⟨rfl, _, SqL.of hp2'⟩, p, ys, rfl, rfl, hp2', ?_⟩
  have s4 : Same H1 (upd H3 p (.lst [])) := (s2.trans s3).updl hp
  have dr4 := dr.keep s4
  -- once more
  refine ⟨_, rfl, vr, .tuple ds, rfl, dr4, hS, fun ds' e _ q zs H5 hq hq5 dq5 s5 => ?_, fun z => by rw [hrt] at z; cases z⟩
  cases e
  have d5 : Dp K H5 (.ref q) (.list ((runs ds).map pq)) := .lst (SqL.of hq5) (DpAll.keep same_del dq5)
  refine ⟨_, rfl, vr, ds, rfl, dr4.keep s5, hring, by omega, fun q' zs' H6 hq' hq6 dq6 s6 => ?_⟩
  have d6 : Dp K H6 (.ref q') (.list ((runs ds).map pq)) := .lst (SqL.of hq6) (DpAll.keep same_del dq6)
  refine ⟨_, _, d5.keep s6, d6, hsh.shaped, hsh.shaped, _, rfl, ?_⟩
  refine ifF (by rw [hsh.rfl_]; rfl) ?_
  have s16 := (s4.trans s5).trans s6
  have st6 := st.same s16
  -- one, other
  refine ⟨_, rfl, _, rfl, b, c, _, ns, ct, rfl, st6.bag, hct, by omega, by omega, by omega, hns, fun r1 H7 hr10 hr11 B7 s7 => ?_⟩
  have st7 := st6.draw s7 B7
  refine ⟨_, rfl, _, rfl, b, c, _, ns, _, rfl, B7, by omega, by omega, by omega, by omega, hns, fun r2 H8 hr20 hr21 B8 s8 => ⟨_, _, rfl, ?_⟩⟩
  have st8 := st7.draw s8 B8
  have hposn : (0 : Int) < (ds.length : Nat) := by omega
  refine ⟨_, rfl, _, rfl, _, rfl, _, rfl, r1, r2, _, rfl, hposn, _, _, rfl, rfl, _, rfl, _, _, rfl, rfl, hposn, _, rfl, rfl, _, rfl, ?_⟩
  refine ifF (by show (!decide (V.int ((r1 + (r2 - r1) % (ds.length : Int)) % (ds.length : Int)) = V.int r2)) = false; rw [step_on hr20 hr21, decide_eq_true rfl]; rfl) ?_
  have h0 := Int.emod_nonneg (r2 - r1) (show (ds.length : Int) ≠ 0 by omega)
  have h1 := Int.emod_lt_of_pos (r2 - r1) hposn
  refine ⟨_, rfl, _, rfl, _, rfl, r1, r2, _, rfl, hposn, _, _, rfl, rfl, _, rfl, ?_⟩
  refine ifT (decide_eq_true h0) ⟨_, rfl, _, _, rfl, rfl, _, rfl, ?_⟩
  rw [decide_eq_true h1]
  refine ifF rfl ?_
  exact qA Q b c ns _ hs x0 x3 _ x5 x6 _ _ _ xo xs xr vr ds H8 st8 hring hl (by omega) (by omega) hns hh hh2 hQ
end
end K40

namespace K40
open PySem PySem.Spec PyProof.Rows L2 Rg PySem.RingX
section
variable {P : Program} {w : World} {K : PySem.W.Frag} {mg : Str → Option Value} {base : Heap} {CW CR fW fR : Addr} {T : List (Addr × Str)} {c1 P1 : Addr}
theorem lawC {f : Addr} {A : Around} {outer : List Env} {s : Shared} {H : Hp} {E : XK} (hr : Room 11 (A.deeper (envOfC "law" (defScope sLaw) s.heap.objs.size f (.ref c1)))) (G : GT mg) (G2 : GT2 mg) (DR : Def P w K mg base CX0 "is_ring" 5 ["value"] (spS K ringD)) (DA : Def P w K mg base (L2.CX P w) "all_items" 7 ["ring"] (spAll K CR))
    (DLw : Def P w K mg base (L2.CX P w) "is_lawful" 9 ["ring", "way"] (spLawful K CW CR)) (DLL : Def P w K mg base CX0 "_law_lawful" 1 ["ring", "way"] (spLLaw K)) (DH : Def P w K mg base CX0 "home" 1 ["item", "many"] (spHome K))
    {tB : TS} (pB : PSs (xLaw P w K mg base f c1 A outer s H E) ((defBody sLaw).drop 8) tB)
    (qB : ∀ (Q : VK) (b c : Addr) (ns : List Int) (ct hs : Int) (x0 x3 x5 x6 x7 x8 x9 xo xs xr : Option V) (vr : V) (ds : List D) (H1 : Hp),
      Stt K T b c ns ct [(vr, .tuple ds)] H1 → ringL ds = true → ds.length ≤ 12 → 0 ≤ ct → ct < 500000 → ns.length < 1000 → 0 < hs → hs < 2 ^ 200 → (∀ H', Q (.bl true) H') → tB { nx := fun _ H' => Q .non H', rt := Q } [x0, some (.ref b), some (.int hs), x3, some (.int (ds.length : Nat)), x5, x6, x7, x8, x9, xo, some vr, xs, xr] H1) :
    ∃ t, PSs (xLaw P w K mg base f c1 A outer s H E) ((defBody sLaw).drop 5) t ∧ ∀ (Q : VK) (b c : Addr) (ns : List Int) (ct hs : Int) (x0 x3 x5 x6 x7 x8 x9 xo xs xr : Option V) (vr : V) (ds : List D) (H1 : Hp),
      Stt K T b c ns ct [(vr, .tuple ds)] H1 → ringL ds = true → ds.length ≤ 12 → 0 ≤ ct → ct < 500000 → ns.length < 1000 → 0 < hs → hs < 2 ^ 200 → (∀ H', Q (.bl true) H') → t { nx := fun _ H' => Q .non H', rt := Q } [x0, some (.ref b), some (.int hs), x3, some (.int (ds.length : Nat)), x5, x6, x7, x8, x9, xo, some vr, xs, xr] H1 := by
  obtain ⟨fR', dR, GR, gR, kR, bR⟩ := DR
  obtain ⟨fA, dA, GA, gA, kA, bA⟩ := DA
  obtain ⟨fL, dL, GL, gL, kL, bL⟩ := DLw
  obtain ⟨fM, dM, GM, gM, kM, bM⟩ := DLL
  obtain ⟨fH, dH, GH, gH, kH, bH⟩ := DH
  have hu64 : (A.deeper (envOfC "law" (defScope sLaw) s.heap.objs.size f (.ref c1))).units + 64 < cLine := by have := hr.un; omega
  have hr1 : Room 1 (A.deeper (envOfC "law" (defScope sLaw) s.heap.objs.size f (.ref c1))) := hr.mono (by decide)
  have hr5 : Room 5 (A.deeper (envOfC "law" (defScope sLaw) s.heap.objs.size f (.ref c1))) := hr.mono (by decide)
  have hr7 : Room 7 (A.deeper (envOfC "law" (defScope sLaw) s.heap.objs.size f (.ref c1))) := hr.mono (by decide)
  have hr9 : Room 9 (A.deeper (envOfC "law" (defScope sLaw) s.heap.objs.size f (.ref c1))) := hr.mono (by decide)
  refine ⟨_, pss_cons (ps_if (PW.pt (pw_or (pt_cmpR op_notBl (pe_call GR hr5 (by rfl) gR kR bR .nil pass0 (pa_cons (pv 11) pa_nil)) pe_bl (nomark _))
        (pw_or1 (pt_cmpR (op_neD hu64) (pe_call (E := E0) GA hr7 (by rfl) gA kA bA .nil passX (pa_cons (pv 11) pa_nil))
          (pe_tupleOf (by rfl) G.tup (pe_lc (own := [("row", 13)]) (g := gName 13) (tt := tTest (tCB (rIsi K) (tCons (tVar 13) (tCons (tC (.ty "tuple")) tNil)))) rfl scLaw.nd (pi_tup (pv 11)) (blkOk_by (own := [("row", 13)]) (N := nLaw) (sc := defScope sLaw) (by decide +kernel))
            (fun _ _ _ _ _ => pg_name (i := 13) scLaw.nd rfl (Or.inl rfl)) (fun _ _ _ _ _ => pts_one (pt_val (pe_callB (show CallR _ _ (rIsi K) from call_isi) (by rfl) G.isi (by decide +kernel) (pa_cons (pv 13) (pa_cons (pe_bltn (v := .ty "tuple") (by rfl) G.tup (by decide +kernel) rfl) pa_nil))))) (fun _ _ _ _ _ => pv 13))) (by rfl))))) (pss_one (ps_ret pe_bl)) pss_nil)
    (pss_cons (ps_for PassesOwn.never rfl (pi_list (pe_lst (pa_cons pe_str (pa_cons pe_str (pa_cons pe_str pa_nil))))) (pg_name (i := 5) scLaw.nd rfl (Or.inl rfl))
      (pss_one (ps_if (pt_cmpR op_ne (pe_callB call_repr_bool (by rfl) G2.repr (by decide +kernel) (pa_cons (pe_call (E := E0) GL hr9 (by rfl) gL kL bL .nil passX (pa_cons (pv 11) (pa_cons (pv 5) pa_nil))) pa_nil)) (pe_callB call_repr_bool (by rfl) G2.repr (by decide +kernel) (pa_cons (pe_call GM hr1 (by rfl) gM kM bM .nil pass0 (pa_cons (pv 11) (pa_cons (pv 5) pa_nil))) pa_nil)) (nomark _)) (pss_one (ps_ret pe_bl)) pss_nil)))
    (pss_cons (ps_for PassesOwn.never rfl (pi_tup (pe_call (E := E0) GA hr7 (by rfl) gA kA bA .nil passX (pa_cons (pv 11) pa_nil))) (pg_name (i := 6) scLaw.nd rfl (Or.inl rfl))
      (pss_one (ps_if (pt_cmpR op_ne (pe_call GH hr1 (by rfl) gH kH bH .nil pass0 (pa_cons (pv 6) (pa_cons (pv 4) pa_nil))) (pe_op op_mod (pe_ix ix_tup (pv 6) pe_int (fun _ _ => rfl)) (pv 4)) (nomark _)) (pss_one (ps_ret pe_bl)) pss_nil))) pB)), ?_⟩
  intro Q b c ns ct hs x0 x3 x5 x6 x7 x8' x9 xo xs xr vr ds H1 st hring hl hct hct2 hns hh hh2 hQ
  have dr := st.dat (vr, .tuple ds) (by simp)
  have hS : Short (.tuple ds) := fun ds' e => by cases e; omega
  have hrt : ringD (.tuple ds) = true := hring
  have hpos := (ring_open hring).2
  have hposn : (0 : Int) < (ds.length : Nat) := by omega
  have htm : Tame (.tuple (ds.filter isT)) := tame_tup fun d hd => tame_row (List.all_eq_true.mp (ring_rows hring) d (List.mem_filter.mp hd).1)
  -- is_ring
  refine ⟨_, rfl, vr, .tuple ds, rfl, dr, hS, fun H2 s2 => ⟨_, _, rfl, rfl, _, rfl, ?_⟩⟩
  rw [hrt]
  refine ifF rfl ?_
  -- all_items
  refine ⟨_, rfl, vr, .tuple ds, rfl, dr.keep s2, hS, fun ds' e _ x H3 d3 s3 => ?_, fun z => by rw [hrt] at z; cases z⟩
  cases e
  have s13 := s2.trans s3
  obtain ⟨a, xs', ea, sq, dp⟩ := dp_tup (dr.keep s13)
  have hxl := dp.length
  refine ⟨_, rfl, a, ea, ⟨_, sq⟩, fun L hL => lc_tup (K := K) (a := a) (xs := xs') (fun i H' => Same H3 H' ∧ ∃ ys, H' L = some (.lst ys) ∧ DpAll K H3 ys ((ds.take i).filter isT)) ⟨same_upd hL, [], upd_same, .nil⟩ (fun i H' _ h => h.1.sqT sq) ?_ ?_⟩
  · rintro i x' H4 hx ⟨s4, ys, h4, d4⟩
    obtain ⟨d, hd, dx⟩ := dp_at dp hx
    have dx1 := dx.keep s4
    refine ⟨rfl, _, rfl, x', _, _, _, isT d, rfl, .ty _, dp_ty dx1, kit_ty (kit_tup dx1), isT d, rfl, ?_⟩
    cases ht : isT d with
    | true =>
      refine iteT ⟨_, rfl, ys, h4, ?_, ?_⟩
      · have := d4.length
        have := List.length_filter_le isT (ds.take i)
        have := List.length_take (i := i) (l := ds)
        rw [sizeLine_eq]; omega
      · refine ⟨s4.updl hL, _, upd_same, ?_⟩
        rw [take_more hd, List.filter_append, List.filter_cons_of_pos ht]
        exact DpAll.snoc d4 dx
    | false =>
      refine iteF ⟨s4, ys, h4, ?_⟩
      rw [take_more hd, List.filter_append, List.filter_cons_of_neg (by rw [ht]; decide)]
      simpa using d4
  · rintro H4 ⟨s4, ys, h4, d4⟩
    rw [hxl, List.take_length] at d4
    refine .inl ⟨L, ys, rfl, SqL.of h4, fun q hq => ?_⟩
    have s5 := s4.trans (same_upd (o := .tup ys) hq)
    refine ⟨_, _, d3.keep s5, new_tup (DpAll.keep s4 d4) hq, htm.shaped, htm.shaped, _, rfl, ?_⟩
    refine ifF (by rw [htm.rfl_]; rfl) ?_
    have s15 := s13.trans s5
    -- each way
    refine ⟨(by show 3 ≤ sizeLine; decide), fun lw hlw => ?_⟩
    have s6 := same_upd (o := .lst [V.str "plain", V.str "stones", V.str "sorted"]) hlw
    refine ⟨lw, rfl, ⟨_, SqL.of upd_same⟩, for_list (xs := [V.str "plain", V.str "stones", V.str "sorted"]) (fun i σ H' => (∃ y5, σ = [x0, some (V.ref b), some (V.int hs), x3, some (V.int (ds.length : Nat)), y5, x6, x7, x8', x9, xo, some vr, xs, xr]) ∧ Same (upd (upd H4 q (.tup ys)) lw (.lst [V.str "plain", V.str "stones", V.str "sorted"])) H') ⟨⟨_, rfl⟩, Same.refl _⟩ (fun i σ H' _ h => h.2.seq (SqL.of upd_same)) ?_ ?_⟩
    · rintro i y σ H7 hx ⟨⟨y5, rfl⟩, s7⟩
      obtain ⟨wx, rfl, hwx⟩ : ∃ wx : Str, y = .str wx ∧ (wx = "plain" ∨ wx = "stones" ∨ wx = "sorted") := by
        have hi3 : i < 3 := (List.getElem?_eq_some_iff.mp hx).1
        have cs : i = 0 ∨ i = 1 ∨ i = 2 := by omega
        rcases cs with e | e | e <;> subst e <;> cases hx
        · exact ⟨_, rfl, .inl rfl⟩
        · exact ⟨_, rfl, .inr (.inl rfl)⟩
        · exact ⟨_, rfl, .inr (.inr rfl)⟩
      have hway : wayD (.str wx) = true := by rcases hwx with e | e | e <;> rw [e] <;> kernel_rfl
      have dr7 := dr.keep ((s15.trans s6).trans s7)
      refine ⟨_, rfl, _, rfl, vr, .str wx, .tuple ds, .str wx, rfl, dr7, .str _, hS, (fun _ e => nomatch e), (fun ds' x' e1 _ e2 _ b1 H8 hb1 s8 => ?_), (fun z => by rw [hrt] at z; cases z), fun _ z => by rw [hway] at z; cases z⟩
      cases e1
      cases e2
      refine ⟨b1, rfl, _, rfl, _, rfl, vr, ds, wx, rfl, dr7.keep s8, hring, by omega, hwx, fun b2 H9 hb2 s9 => ⟨b2, rfl, rfl, _, rfl, ?_⟩⟩
      have eb : b1 = b2 := by
        cases b1 <;> cases b2 <;> first | rfl | (exact absurd (hb1.mpr (hb2.mp rfl)) (by decide)) | (exact absurd (hb2.mpr (hb1.mp rfl)) (by decide))
      subst eb
      refine ifF (by rw [decide_eq_true rfl]; rfl) ?_
      exact ⟨⟨_, rfl⟩, (s7.trans s8).trans s9⟩
    · rintro σ H7 ⟨⟨y5, rfl⟩, s7⟩
      have s17 := (s15.trans s6).trans s7
      -- homes
      refine ⟨_, rfl, vr, .tuple ds, rfl, dr.keep s17, hS, fun ds' e _ x8 H8 d8 s8 => ?_, fun z => by rw [hrt] at z; cases z⟩
      cases e
      obtain ⟨a2, xs2, rfl, sq2, dp2⟩ := dp_tup d8
      refine ⟨a2, rfl, ⟨_, sq2⟩, for_tup (xs := xs2) (fun i σ H' => (∃ y6, σ = [x0, some (V.ref b), some (V.int hs), x3, some (V.int (ds.length : Nat)), y5, y6, x7, x8', x9, xo, some vr, xs, xr]) ∧ H' = H8) ⟨⟨_, rfl⟩, rfl⟩ (fun i σ H' _ h => by rw [h.2]; exact sq2) ?_ ?_⟩
      · rintro i y σ H9 hx ⟨⟨y6, rfl⟩, rfl⟩
        obtain ⟨d, hd, dx⟩ := dp_at dp2 hx
        have hmem := List.mem_of_getElem? hd
        have hit : itemD d = true := row_item (List.all_eq_true.mp (ring_rows hring) d (List.mem_filter.mp hmem).1) (List.mem_filter.mp hmem).2
        obtain ⟨kk, xx, mm, rfl, _⟩ := item_parts hit
        obtain ⟨ad, rfl, sqd⟩ := dp_item dx
        refine ⟨_, rfl, _, rfl, ad, kk, xx, mm, _, rfl, sqd, hposn, _, rfl, ad, _, 1, _, rfl, rfl, sqd, rfl, _, rfl, _, _, rfl, rfl, hposn, rfl, _, rfl, ?_⟩
        refine ifF (by rw [decide_eq_true rfl]; rfl) ?_
        exact ⟨⟨_, rfl⟩, rfl⟩
      · rintro σ H9 ⟨⟨y6, rfl⟩, rfl⟩
        exact qB Q b c ns ct hs x0 x3 _ _ x7 _ x9 xo xs xr vr ds H9 (st.same (s17.trans s8)) hring hl hct hct2 hns hh hh2 hQ
end
end K40

namespace K40
open PySem PySem.Spec PyProof.Rows L2 Rg PySem.RingX
section
variable {P : Program} {w : World} {K : PySem.W.Frag} {mg : Str → Option Value} {base : Heap} {CW CR fW fR : Addr} {T : List (Addr × Str)} {c1 P1 c0 P0 : Addr}
def spLaw (K : PySem.W.Frag) (T : List (Addr × Str)) : Sp := fun vs H Q _ => ∃ (a : Addr) (ns : List Int), vs = [.ref a] ∧ SqL K H a (ns.map V.int) ∧ ns.length ≤ 63 ∧ LamX.Tabs T H ∧ ∀ H', Q (.bl true) H'
theorem ok_law {f : Addr} {fd : FuncData} (F : Fun K "law" "law" sLaw f fd) (hc : fd.code = .ref c1) (G : GT mg) (G2 : GT2 mg) (R : Raw K mg "_law_refused" sRef ["action"]) (EXt : EX P K mg CW CR fW fR) (S : Rel2 K CW CR) (L : Lam base mg T c1 P1 "law.<locals>.<lambda>") (DD : DDraw P w K mg base)
    (DB : Def P w K mg base CX0 "_law_bag" 1 ["script"] (spBag K)) (DDr : Def P w K mg base CX0 "_law_drawn" 3 ["bag", "way", "hashes"] (spDrawn K))
    (DR : Def P w K mg base CX0 "is_ring" 5 ["value"] (spS K ringD)) (DSp : Def P w K mg base CX0 "_law_spoiled" 2 ["bag", "ring"] (spSpoil K)) (DLw : Def P w K mg base (L2.CX P w) "is_lawful" 9 ["ring", "way"] (spLawful K CW CR)) (DRu : Def P w K mg base (L2.CX P w) "runs" 7 ["ring"] (spRuns K CR)) (DA : Def P w K mg base (L2.CX P w) "all_items" 7 ["ring"] (spAll K CR)) (DPR : Def P w K mg base CX0 "_law_placed_right" 10 ["bag", "hashes"] (spPR K T))
    (DDi : Def P w K mg base CX0 "distance" 1 ["one", "other", "many"] spDist) (DLR : Def P w K mg base CX0 "_law_runs" 1 ["ring"] (spLRuns K)) (DLL : Def P w K mg base CX0 "_law_lawful" 1 ["ring", "way"] (spLLaw K)) (DH : Def P w K mg base CX0 "home" 1 ["item", "many"] (spHome K)) :
    FnOk P w K mg base CX0 12 f fd ["script"] (spLaw K T) := by
  refine F.okC hc scLaw (fun vs H Q E h => ?_) (fun A outer s H vs Q E hr h => ?_)
  · obtain ⟨a, ns, rfl, _⟩ := h
    rfl
  · obtain ⟨a, ns, rfl, hS, hns, hT, hQ⟩ := h
    obtain ⟨tA, pA, qA⟩ := lawA (A := A) (outer := outer) (s := s) (H := H) (E := E) (f := f) hr G R EXt S L DD DR DSp DLw DRu DA DPR
    obtain ⟨tB, pB, qB⟩ := lawB (A := A) (outer := outer) (s := s) (H := H) (E := E) (f := f) hr G DD DDi DRu DLR pA qA
    obtain ⟨tC, pC, qC⟩ := lawC (A := A) (outer := outer) (s := s) (H := H) (E := E) (f := f) hr G G2 DR DA DLw DLL DH pB qB
    obtain ⟨fD, dD, GD, gD, kD, bD⟩ := DD
    obtain ⟨fB, dB, GB, gB, kB, bB⟩ := DB
    obtain ⟨fN, dN, GN, gN, kN, bN⟩ := DDr
    have hr1 : Room 1 (A.deeper (envOfC "law" (defScope sLaw) s.heap.objs.size f (.ref c1))) := hr.mono (by decide)
    have hr3 : Room 3 (A.deeper (envOfC "law" (defScope sLaw) s.heap.objs.size f (.ref c1))) := hr.mono (by decide)
    refine ⟨_, pss_cons (ps_set (i := 1) scLaw.nd rfl (Or.inl rfl) (pe_call GB hr1 (by rfl) gB kB bB .nil pass0 (pa_cons (pv 0) pa_nil)))
      (pss_cons (ps_set (i := 2) scLaw.nd rfl (Or.inl rfl) (pe_ix ix_list (pe_lst (pa_cons pe_int (pa_cons pe_int (pa_cons (pe_op op_pow pe_int pe_int) pa_nil)))) (pe_call GD hr1 (by rfl) gD kD bD .nil pass0 (pa_cons (pv 1) (pa_cons pe_int pa_nil))) (fun _ _ => rfl)))
      (pss_cons (ps_set (i := 3) scLaw.nd rfl (Or.inl rfl) (pe_ix ix_list (pe_lst (pa_cons pe_str (pa_cons pe_str (pa_cons pe_str pa_nil)))) (pe_call GD hr1 (by rfl) gD kD bD .nil pass0 (pa_cons (pv 1) (pa_cons pe_int pa_nil))) (fun _ _ => rfl)))
      (pss_cons (ps_set (i := 11) scLaw.nd rfl (Or.inr rfl) (pe_call GN hr3 (by rfl) gN kN bN .nil pass0 (pa_cons (pv 1) (pa_cons (pv 3) (pa_cons (pv 2) pa_nil)))))
      (pss_cons (ps_set (i := 4) scLaw.nd rfl (Or.inl rfl) (pe_callB call_len_seq (by rfl) G.len PySem.boot_len (pa_cons (pv 11) pa_nil))) pC)))), ?_⟩
    refine ⟨_, rfl, a, ns, rfl, hS, by omega, fun b c H1 hb B1 s1 => ?_⟩
    have st1 : Stt K T b c ns 0 [] H1 := ⟨B1, hT.ext s1, fun q hq => nomatch hq⟩
    -- hashes
    refine ⟨_, _, rfl, rfl, ⟨by decide, by decide, by decide⟩, (by show 3 ≤ sizeLine; decide), fun p1 hp1 => ?_⟩
    have d1 : Dp K _ (.ref p1) (.list [.int 4, .int 12, .int (10 ^ (30 : Int).toNat)]) := new_lst (.cons (.int 4) (.cons (.int 12) (.cons (.int (10 ^ (30 : Int).toNat)) .nil))) hp1
    have st2 := st1.same (same_upd (o := .lst [V.int 4, V.int 12, V.int (10 ^ (30 : Int).toNat)]) hp1)
    refine ⟨_, rfl, b, c, 3, ns, 0, rfl, st2.bag, by decide, by decide, by decide, by decide, by omega, fun r1 H2 hr10 hr11 B2 s2 => ?_⟩
    refine ixL_ok (d1.keepD (st2.bag.ext s2)) hr10 hr11 fun vh dh hmem dvh => ?_
    obtain ⟨hs, rfl, hh, hh2⟩ : ∃ hs : Int, vh = .int hs ∧ 0 < hs ∧ hs < 2 ^ 200 := by
      simp only [List.mem_cons, List.not_mem_nil, or_false] at hmem
      rcases hmem with e | e | e <;> subst e <;> cases dvh
      · exact ⟨_, rfl, by decide, by decide⟩
      · exact ⟨_, rfl, by decide, by decide⟩
      · exact ⟨_, rfl, by decide, by decide⟩
    have st3 := st2.draw s2 B2
    -- way
    refine ⟨(by show 3 ≤ sizeLine; decide), fun p2 hp2 => ?_⟩
    have d2 : Dp K _ (.ref p2) (.list [.str "plain", .str "stones", .str "sorted"]) := new_lst (.cons (.str "plain") (.cons (.str "stones") (.cons (.str "sorted") .nil))) hp2
    have st4 := st3.same (same_upd (o := .lst [V.str "plain", V.str "stones", V.str "sorted"]) hp2)
    refine ⟨_, rfl, b, c, 3, ns, _, rfl, st4.bag, by decide, by decide, by decide, by decide, by omega, fun r2 H3 hr20 hr21 B3 s3 => ?_⟩
    refine ixL_ok (d2.keepD (st4.bag.ext s3)) hr20 hr21 fun vw dw hmem2 dvw => ?_
    obtain ⟨wx, rfl⟩ : ∃ wx : Str, vw = .str wx := by
      simp only [List.mem_cons, List.not_mem_nil, or_false] at hmem2
      rcases hmem2 with e | e | e <;> subst e <;> cases dvw <;> exact ⟨_, rfl⟩
    have st5 := st4.draw s3 B3
    -- ring
    refine ⟨_, rfl, _, rfl, _, rfl, b, c, wx, hs, ns, _, rfl, B3, by decide, by decide, hh, hh2, by omega, fun vr ds ct' H4 dr hring hl B4 h1 h2 s4 => ?_⟩
    have st6 := (st5.draw s4 B4).add dr
    obtain ⟨ar, xs, rfl, sq, dp⟩ := dp_tup dr
    refine ⟨_, rfl, ar, xs, rfl, .inr sq, ?_⟩
    show gName 4 (V.int (xs.length : Nat)) _ _ _
    rw [dp.length]
    exact qC Q b c ns ct' hs _ _ none none none none none none none none (.ref ar) ds H4 st6 hring hl (by omega) (by omega) (by omega) hh hh2 hQ
end
end K40

namespace K40
open PySem PySem.Spec PyProof.Rows L2 Rg PySem.RingX

abbrev sI0 : Stmt := inClass (top 2) 0
theorem text0 : ExText sI0 ["way"] := ⟨by rfl, by rfl, by rfl, by rfl, by rfl, by decide +kernel, by decide, fun _ _ _ _ _ _ _ _ _ _ us h => match us, h with | [_], _ => .of_eq rfl⟩
abbrev sI1 : Stmt := inClass (top 3) 0
theorem text1 : ExText sI1 ["ring"] := ⟨by rfl, by rfl, by rfl, by rfl, by rfl, by decide +kernel, by decide, fun _ _ _ _ _ _ _ _ _ _ us h => match us, h with | [_], _ => .of_eq rfl⟩
theorem sqT_top {K : PySem.W.Frag} {a : Addr} {od : Option Addr} {its : Array Value} {n : Nat} {sl : Array (Option Value)} {xs : List V} (h : K.lookup a = some ⟨.type "tuple", od, .seq its n, sl⟩) (hl : its.size ≤ sizeLine) (v : Vals xs its.toList) (H : Hp) : SqT K H a xs := .inr ⟨_, its, n, h, rfl, rfl, hl, v⟩
theorem all_mk {l : PySem.W.OpenLaw} {w : World} {K : PySem.W.Frag} {h : Heap} {mg : Str → Option Value} {fa : Addr} (X : K.In h) (G : h.Ns mainGlobals mg) (hfa : mg "law" = some (.ref fa))
    {C0 fI0 cc0 cda0 N0 : Addr} {cn0 q0 qual0 file0 : Str} {bs0 : List Value} {sn0 : List Str} {sub0 : List Value} {ab0 : Bool} {col0 : Option Bool} {dd0 : Option Addr} {ka0 kb0 kc0 kd0 ke0 : Option Value} {oc0 kV0 doc0 pm0 ct0 cl0 ccl0 : Value} {od0 an0 cld0 cdd0 : Option Addr} {osl0 csl0 ccs0 : Array (Option Value)} {vs0 : Array Value} {tf0 : Tok}
    {C1 fI1 cc1 cda1 N1 : Addr} {cn1 q1 qual1 file1 : Str} {bs1 : List Value} {sn1 : List Str} {sub1 : List Value} {ab1 : Bool} {col1 : Option Bool} {dd1 : Option Addr} {ka1 kb1 kc1 kd1 ke1 : Option Value} {oc1 kV1 doc1 pm1 ct1 cl1 ccl1 : Value} {od1 an1 cld1 cdd1 : Option Addr} {osl1 csl1 ccs1 : Array (Option Value)} {vs1 : Array Value} {tf1 : Tok}
    {f0 : Addr} {foc0 fkV0 fdoc0 fpm0 fcd0 fct0 : Value} {fod0 fan0 : Option Addr} {fsl0 : Array (Option Value)}
    {f1 : Addr} {foc1 fkV1 fdoc1 fpm1 fcd1 fct1 : Value} {fod1 fan1 : Option Addr} {fsl1 : Array (Option Value)}
    {f2 : Addr} {foc2 fkV2 fdoc2 fpm2 fcd2 fct2 : Value} {fod2 fan2 : Option Addr} {fsl2 : Array (Option Value)}
    {f3 : Addr} {foc3 fkV3 fdoc3 fpm3 fcd3 fct3 : Value} {fod3 fan3 : Option Addr} {fsl3 : Array (Option Value)}
    {f4 : Addr} {foc4 fkV4 fdoc4 fpm4 fcd4 fct4 : Value} {fod4 fan4 : Option Addr} {fsl4 : Array (Option Value)}
    {f5 : Addr} {foc5 fkV5 fdoc5 fpm5 fcd5 fct5 : Value} {fod5 fan5 : Option Addr} {fsl5 : Array (Option Value)}
    {f6 : Addr} {foc6 fkV6 fdoc6 fpm6 fcd6 fct6 : Value} {fod6 fan6 : Option Addr} {fsl6 : Array (Option Value)}
    {f7 : Addr} {foc7 fkV7 fdoc7 fpm7 fcd7 fct7 : Value} {fod7 fan7 : Option Addr} {fsl7 : Array (Option Value)}
    {f8 : Addr} {foc8 fkV8 fdoc8 fpm8 fcd8 fct8 : Value} {fod8 fan8 : Option Addr} {fsl8 : Array (Option Value)}
    {f9 : Addr} {foc9 fkV9 fdoc9 fpm9 fcd9 fct9 : Value} {fod9 fan9 : Option Addr} {fsl9 : Array (Option Value)}
    {f10 : Addr} {foc10 fkV10 fdoc10 fpm10 fcd10 fct10 : Value} {fod10 fan10 : Option Addr} {fsl10 : Array (Option Value)}
    {f11 : Addr} {foc11 fkV11 fdoc11 fpm11 fcd11 fct11 : Value} {fod11 fan11 : Option Addr} {fsl11 : Array (Option Value)}
    {f12 : Addr} {foc12 fkV12 fdoc12 fpm12 fcd12 fct12 : Value} {fod12 fan12 : Option Addr} {fsl12 : Array (Option Value)}
    {f13 : Addr} {foc13 fkV13 fdoc13 fpm13 fcd13 fct13 : Value} {fod13 fan13 : Option Addr} {fsl13 : Array (Option Value)}
    {f14 : Addr} {foc14 fkV14 fdoc14 fpm14 fcd14 fct14 : Value} {fod14 fan14 : Option Addr} {fsl14 : Array (Option Value)}
    {f15 : Addr} {foc15 fkV15 fdoc15 fpm15 fcd15 fct15 : Value} {fod15 fan15 : Option Addr} {fsl15 : Array (Option Value)}
    {f16 : Addr} {foc16 fkV16 fdoc16 fpm16 fcd16 fct16 : Value} {fod16 fan16 : Option Addr} {fsl16 : Array (Option Value)}
    {f17 : Addr} {foc17 fkV17 fdoc17 fpm17 fcd17 fct17 : Value} {fod17 fan17 : Option Addr} {fsl17 : Array (Option Value)}
    {f18 : Addr} {foc18 fkV18 fdoc18 fpm18 fcd18 fct18 : Value} {fod18 fan18 : Option Addr} {fsl18 : Array (Option Value)}
    {f19 : Addr} {foc19 fkV19 fdoc19 fpm19 fcd19 fct19 : Value} {fod19 fan19 : Option Addr} {fsl19 : Array (Option Value)}
    {f20 : Addr} {foc20 fkV20 fdoc20 fpm20 fcd20 fct20 : Value} {fod20 fan20 : Option Addr} {fsl20 : Array (Option Value)}
    {f21 : Addr} {foc21 fkV21 fdoc21 fpm21 fcd21 fct21 : Value} {fod21 fan21 : Option Addr} {fsl21 : Array (Option Value)}
    {f22 : Addr} {foc22 fkV22 fdoc22 fpm22 fcd22 fct22 : Value} {fod22 fan22 : Option Addr} {fsl22 : Array (Option Value)}
    {f23 : Addr} {foc23 fkV23 fdoc23 fpm23 fcd23 fct23 : Value} {fod23 fan23 : Option Addr} {fsl23 : Array (Option Value)}
    {f24 : Addr} {foc24 fkV24 fdoc24 fpm24 fcd24 fct24 : Value} {fod24 fan24 : Option Addr} {fsl24 : Array (Option Value)}
    {f25 : Addr} {foc25 fkV25 fdoc25 fpm25 fcd25 fct25 : Value} {fod25 fan25 : Option Addr} {fsl25 : Array (Option Value)}
    {f26 : Addr} {foc26 fkV26 fdoc26 fpm26 fcd26 fct26 : Value} {fod26 fan26 : Option Addr} {fsl26 : Array (Option Value)}
    {f27 : Addr} {foc27 fkV27 fdoc27 fpm27 fcd27 fct27 : Value} {fod27 fan27 : Option Addr} {fsl27 : Array (Option Value)}
    {f28 : Addr} {foc28 fkV28 fdoc28 fpm28 fcd28 fct28 : Value} {fod28 fan28 : Option Addr} {fsl28 : Array (Option Value)}
    {f29 cA29 cP29 : Addr} {foc29 fkV29 fdoc29 fpm29 fct29 kcl29 : Value} {fod29 fan29 kcd29 : Option Addr} {fsl29 ksl29 : Array (Option Value)} {kvs29 : Array Value}
    {f30 cA30 cP30 : Addr} {foc30 fkV30 fdoc30 fpm30 fct30 kcl30 : Value} {fod30 fan30 kcd30 : Option Addr} {fsl30 ksl30 : Array (Option Value)} {kvs30 : Array Value}
    {R aW : Addr} {wod : Option Addr} {tS t1 t2 t3 : Tok} {wn : Nat} {wsl : Array (Option Value)}
    (aC0 : PySem.W.nsIn K mainGlobals "BadWay" = some (some (.ref C0)))
    (xC0 : K.lookup C0 = some (excClassObj cn0 q0 C0 N0 bs0 [.ref R, .type "ValueError", .type "Exception", .type "BaseException", .type "object"] true sn0 sub0 ab0 col0 dd0 ka0 kb0 kc0 kd0 ke0 "ValueError.__new__"))
    (iC0 : PySem.W.findIn K (.ref C0) "__init__" = some (some (.ref fI0)))
    (lI0 : K.lookup fI0 = some ⟨oc0, od0, .func (PySem.W.ksFn "__init__" qual0 (defArgs sI0) (defBody sI0) (defScope sI0) .none kV0 doc0 pm0 an0 (.ref cda0) ct0 cc0), osl0⟩) (cd0 : PySem.W.codeIn K (.ref cda0) qual0 = true)
    (ce0 : K.lookup cc0 = some ⟨cl0, cld0, .cell (some (.ref C0)), csl0⟩) (ca0 : K.lookup cda0 = some ⟨ccl0, cdd0, .fields vs0, ccs0⟩) (hv0 : vs0[2]? = some (.str file0 tf0)) (hf0 : ((l.prog.main.file : Str) == file0) = true) (ch0 : exB K C0 fI0 ["way"] = true)
    (aC1 : PySem.W.nsIn K mainGlobals "BadRing" = some (some (.ref C1)))
    (xC1 : K.lookup C1 = some (excClassObj cn1 q1 C1 N1 bs1 [.ref R, .type "ValueError", .type "Exception", .type "BaseException", .type "object"] true sn1 sub1 ab1 col1 dd1 ka1 kb1 kc1 kd1 ke1 "ValueError.__new__"))
    (iC1 : PySem.W.findIn K (.ref C1) "__init__" = some (some (.ref fI1)))
    (lI1 : K.lookup fI1 = some ⟨oc1, od1, .func (PySem.W.ksFn "__init__" qual1 (defArgs sI1) (defBody sI1) (defScope sI1) .none kV1 doc1 pm1 an1 (.ref cda1) ct1 cc1), osl1⟩) (cd1 : PySem.W.codeIn K (.ref cda1) qual1 = true)
    (ce1 : K.lookup cc1 = some ⟨cl1, cld1, .cell (some (.ref C1)), csl1⟩) (ca1 : K.lookup cda1 = some ⟨ccl1, cdd1, .fields vs1, ccs1⟩) (hv1 : vs1[2]? = some (.str file1 tf1)) (hf1 : ((l.prog.main.file : Str) == file1) = true) (ch1 : exB K C1 fI1 ["ring"] = true)
    (a0 : PySem.W.nsIn K mainGlobals "is_whole" = some (some (.ref f0))) (l0 : K.lookup f0 = some ⟨foc0, fod0, .func (PySem.W.fnOf "is_whole" "is_whole" (defArgs sWhole) (defBody sWhole) (defScope sWhole) .none fkV0 fdoc0 fpm0 fan0 fcd0 fct0), fsl0⟩) (c0 : PySem.W.codeIn K fcd0 "is_whole" = true) (k0 : PySem.W.keepIn K (.ref f0) = true)
    (a1 : PySem.W.nsIn K mainGlobals "is_pair" = some (some (.ref f1))) (l1 : K.lookup f1 = some ⟨foc1, fod1, .func (PySem.W.fnOf "is_pair" "is_pair" (defArgs sPair) (defBody sPair) (defScope sPair) .none fkV1 fdoc1 fpm1 fan1 fcd1 fct1), fsl1⟩) (c1 : PySem.W.codeIn K fcd1 "is_pair" = true) (k1 : PySem.W.keepIn K (.ref f1) = true)
    (a2 : PySem.W.nsIn K mainGlobals "is_item" = some (some (.ref f2))) (l2 : K.lookup f2 = some ⟨foc2, fod2, .func (PySem.W.fnOf "is_item" "is_item" (defArgs sItem) (defBody sItem) (defScope sItem) .none fkV2 fdoc2 fpm2 fan2 fcd2 fct2), fsl2⟩) (c2 : PySem.W.codeIn K fcd2 "is_item" = true) (k2 : PySem.W.keepIn K (.ref f2) = true)
    (a3 : PySem.W.nsIn K mainGlobals "is_row" = some (some (.ref f3))) (l3 : K.lookup f3 = some ⟨foc3, fod3, .func (PySem.W.fnOf "is_row" "is_row" (defArgs sRow) (defBody sRow) (defScope sRow) .none fkV3 fdoc3 fpm3 fan3 fcd3 fct3), fsl3⟩) (c3 : PySem.W.codeIn K fcd3 "is_row" = true) (k3 : PySem.W.keepIn K (.ref f3) = true)
    (a4 : PySem.W.nsIn K mainGlobals "keys_differ" = some (some (.ref f4))) (l4 : K.lookup f4 = some ⟨foc4, fod4, .func (PySem.W.fnOf "keys_differ" "keys_differ" (defArgs sKeys) (defBody sKeys) (defScope sKeys) .none fkV4 fdoc4 fpm4 fan4 fcd4 fct4), fsl4⟩) (c4 : PySem.W.codeIn K fcd4 "keys_differ" = true) (k4 : PySem.W.keepIn K (.ref f4) = true)
    (a5 : PySem.W.nsIn K mainGlobals "items_of" = some (some (.ref f5))) (l5 : K.lookup f5 = some ⟨foc5, fod5, .func (PySem.W.fnOf "items_of" "items_of" (defArgs sItems) (defBody sItems) (defScope sItems) .none fkV5 fdoc5 fpm5 fan5 fcd5 fct5), fsl5⟩) (c5 : PySem.W.codeIn K fcd5 "items_of" = true) (k5 : PySem.W.keepIn K (.ref f5) = true)
    (a6 : PySem.W.nsIn K mainGlobals "is_ring" = some (some (.ref f6))) (l6 : K.lookup f6 = some ⟨foc6, fod6, .func (PySem.W.fnOf "is_ring" "is_ring" (defArgs sRing) (defBody sRing) (defScope sRing) .none fkV6 fdoc6 fpm6 fan6 fcd6 fct6), fsl6⟩) (c6 : PySem.W.codeIn K fcd6 "is_ring" = true) (k6 : PySem.W.keepIn K (.ref f6) = true)
    (a7 : PySem.W.nsIn K mainGlobals "is_way" = some (some (.ref f7))) (l7 : K.lookup f7 = some ⟨foc7, fod7, .func (PySem.W.fnOf "is_way" "is_way" (defArgs sWay) (defBody sWay) (defScope sWay) .none fkV7 fdoc7 fpm7 fan7 fcd7 fct7), fsl7⟩) (c7 : PySem.W.codeIn K fcd7 "is_way" = true) (k7 : PySem.W.keepIn K (.ref f7) = true)
    (a8 : PySem.W.nsIn K mainGlobals "check_ring" = some (some (.ref f8))) (l8 : K.lookup f8 = some ⟨foc8, fod8, .func (PySem.W.fnOf "check_ring" "check_ring" (defArgs sCkR) (defBody sCkR) (defScope sCkR) .none fkV8 fdoc8 fpm8 fan8 fcd8 fct8), fsl8⟩) (c8 : PySem.W.codeIn K fcd8 "check_ring" = true) (k8 : PySem.W.keepIn K (.ref f8) = true)
    (a9 : PySem.W.nsIn K mainGlobals "check_way" = some (some (.ref f9))) (l9 : K.lookup f9 = some ⟨foc9, fod9, .func (PySem.W.fnOf "check_way" "check_way" (defArgs sCkW) (defBody sCkW) (defScope sCkW) .none fkV9 fdoc9 fpm9 fan9 fcd9 fct9), fsl9⟩) (c9 : PySem.W.codeIn K fcd9 "check_way" = true) (k9 : PySem.W.keepIn K (.ref f9) = true)
    (a10 : PySem.W.nsIn K mainGlobals "home" = some (some (.ref f10))) (l10 : K.lookup f10 = some ⟨foc10, fod10, .func (PySem.W.fnOf "home" "home" (defArgs sHome) (defBody sHome) (defScope sHome) .none fkV10 fdoc10 fpm10 fan10 fcd10 fct10), fsl10⟩) (c10 : PySem.W.codeIn K fcd10 "home" = true) (k10 : PySem.W.keepIn K (.ref f10) = true)
    (a11 : PySem.W.nsIn K mainGlobals "distance" = some (some (.ref f11))) (l11 : K.lookup f11 = some ⟨foc11, fod11, .func (PySem.W.fnOf "distance" "distance" (defArgs sDist) (defBody sDist) (defScope sDist) .none fkV11 fdoc11 fpm11 fan11 fcd11 fct11), fsl11⟩) (c11 : PySem.W.codeIn K fcd11 "distance" = true) (k11 : PySem.W.keepIn K (.ref f11) = true)
    (a12 : PySem.W.nsIn K mainGlobals "gap" = some (some (.ref f12))) (l12 : K.lookup f12 = some ⟨foc12, fod12, .func (PySem.W.fnOf "gap" "gap" (defArgs sGap) (defBody sGap) (defScope sGap) .none fkV12 fdoc12 fpm12 fan12 fcd12 fct12), fsl12⟩) (c12 : PySem.W.codeIn K fcd12 "gap" = true) (k12 : PySem.W.keepIn K (.ref f12) = true)
    (a13 : PySem.W.nsIn K mainGlobals "runs" = some (some (.ref f13))) (l13 : K.lookup f13 = some ⟨foc13, fod13, .func (PySem.W.fnOf "runs" "runs" (defArgs sRuns) (defBody sRuns) (defScope sRuns) .none fkV13 fdoc13 fpm13 fan13 fcd13 fct13), fsl13⟩) (c13 : PySem.W.codeIn K fcd13 "runs" = true) (k13 : PySem.W.keepIn K (.ref f13) = true)
    (a14 : PySem.W.nsIn K mainGlobals "all_items" = some (some (.ref f14))) (l14 : K.lookup f14 = some ⟨foc14, fod14, .func (PySem.W.fnOf "all_items" "all_items" (defArgs sAll) (defBody sAll) (defScope sAll) .none fkV14 fdoc14 fpm14 fan14 fcd14 fct14), fsl14⟩) (c14 : PySem.W.codeIn K fcd14 "all_items" = true) (k14 : PySem.W.keepIn K (.ref f14) = true)
    (a15 : PySem.W.nsIn K mainGlobals "is_reached" = some (some (.ref f15))) (l15 : K.lookup f15 = some ⟨foc15, fod15, .func (PySem.W.fnOf "is_reached" "is_reached" (defArgs sReach) (defBody sReach) (defScope sReach) .none fkV15 fdoc15 fpm15 fan15 fcd15 fct15), fsl15⟩) (c15 : PySem.W.codeIn K fcd15 "is_reached" = true) (k15 : PySem.W.keepIn K (.ref f15) = true)
    (a16 : PySem.W.nsIn K mainGlobals "is_in_order" = some (some (.ref f16))) (l16 : K.lookup f16 = some ⟨foc16, fod16, .func (PySem.W.fnOf "is_in_order" "is_in_order" (defArgs sOrder) (defBody sOrder) (defScope sOrder) .none fkV16 fdoc16 fpm16 fan16 fcd16 fct16), fsl16⟩) (c16 : PySem.W.codeIn K fcd16 "is_in_order" = true) (k16 : PySem.W.keepIn K (.ref f16) = true)
    (a17 : PySem.W.nsIn K mainGlobals "is_lawful" = some (some (.ref f17))) (l17 : K.lookup f17 = some ⟨foc17, fod17, .func (PySem.W.fnOf "is_lawful" "is_lawful" (defArgs sLawful) (defBody sLawful) (defScope sLawful) .none fkV17 fdoc17 fpm17 fan17 fcd17 fct17), fsl17⟩) (c17 : PySem.W.codeIn K fcd17 "is_lawful" = true) (k17 : PySem.W.keepIn K (.ref f17) = true)
    (a18 : PySem.W.nsIn K mainGlobals "settle" = some (some (.ref f18))) (l18 : K.lookup f18 = some ⟨foc18, fod18, .func (PySem.W.fnOf "settle" "settle" (defArgs sSettle) (defBody sSettle) (defScope sSettle) .none fkV18 fdoc18 fpm18 fan18 fcd18 fct18), fsl18⟩) (c18 : PySem.W.codeIn K fcd18 "settle" = true) (k18 : PySem.W.keepIn K (.ref f18) = true)
    (a19 : PySem.W.nsIn K mainGlobals "are_items" = some (some (.ref f19))) (l19 : K.lookup f19 = some ⟨foc19, fod19, .func (PySem.W.fnOf "are_items" "are_items" (defArgs sAre) (defBody sAre) (defScope sAre) .none fkV19 fdoc19 fpm19 fan19 fcd19 fct19), fsl19⟩) (c19 : PySem.W.codeIn K fcd19 "are_items" = true) (k19 : PySem.W.keepIn K (.ref f19) = true)
    (a20 : PySem.W.nsIn K mainGlobals "placed" = some (some (.ref f20))) (l20 : K.lookup f20 = some ⟨foc20, fod20, .func (PySem.W.fnOf "placed" "placed" (defArgs sPlaced) (defBody sPlaced) (defScope sPlaced) .none fkV20 fdoc20 fpm20 fan20 fcd20 fct20), fsl20⟩) (c20 : PySem.W.codeIn K fcd20 "placed" = true) (k20 : PySem.W.keepIn K (.ref f20) = true)
    (a21 : PySem.W.nsIn K mainGlobals "_law_bag" = some (some (.ref f21))) (l21 : K.lookup f21 = some ⟨foc21, fod21, .func (PySem.W.fnOf "_law_bag" "_law_bag" (defArgs sBag) (defBody sBag) (defScope sBag) .none fkV21 fdoc21 fpm21 fan21 fcd21 fct21), fsl21⟩) (c21 : PySem.W.codeIn K fcd21 "_law_bag" = true) (k21 : PySem.W.keepIn K (.ref f21) = true)
    (a22 : PySem.W.nsIn K mainGlobals "_law_draw" = some (some (.ref f22))) (l22 : K.lookup f22 = some ⟨foc22, fod22, .func (PySem.W.fnOf "_law_draw" "_law_draw" (defArgs sDraw) (defBody sDraw) (defScope sDraw) .none fkV22 fdoc22 fpm22 fan22 fcd22 fct22), fsl22⟩) (c22 : PySem.W.codeIn K fcd22 "_law_draw" = true) (k22 : PySem.W.keepIn K (.ref f22) = true)
    (a23 : PySem.W.nsIn K mainGlobals "_law_lawful" = some (some (.ref f23))) (l23 : K.lookup f23 = some ⟨foc23, fod23, .func (PySem.W.fnOf "_law_lawful" "_law_lawful" (defArgs sLLaw) (defBody sLLaw) (defScope sLLaw) .none fkV23 fdoc23 fpm23 fan23 fcd23 fct23), fsl23⟩) (c23 : PySem.W.codeIn K fcd23 "_law_lawful" = true) (k23 : PySem.W.keepIn K (.ref f23) = true)
    (a24 : PySem.W.nsIn K mainGlobals "_law_items" = some (some (.ref f24))) (l24 : K.lookup f24 = some ⟨foc24, fod24, .func (PySem.W.fnOf "_law_items" "_law_items" (defArgs sLItems) (defBody sLItems) (defScope sLItems) .none fkV24 fdoc24 fpm24 fan24 fcd24 fct24), fsl24⟩) (c24 : PySem.W.codeIn K fcd24 "_law_items" = true) (k24 : PySem.W.keepIn K (.ref f24) = true)
    (a25 : PySem.W.nsIn K mainGlobals "_law_drawn" = some (some (.ref f25))) (l25 : K.lookup f25 = some ⟨foc25, fod25, .func (PySem.W.fnOf "_law_drawn" "_law_drawn" (defArgs sDrawn) (defBody sDrawn) (defScope sDrawn) .none fkV25 fdoc25 fpm25 fan25 fcd25 fct25), fsl25⟩) (c25 : PySem.W.codeIn K fcd25 "_law_drawn" = true) (k25 : PySem.W.keepIn K (.ref f25) = true)
    (a26 : PySem.W.nsIn K mainGlobals "_law_runs" = some (some (.ref f26))) (l26 : K.lookup f26 = some ⟨foc26, fod26, .func (PySem.W.fnOf "_law_runs" "_law_runs" (defArgs sLRuns) (defBody sLRuns) (defScope sLRuns) .none fkV26 fdoc26 fpm26 fan26 fcd26 fct26), fsl26⟩) (c26 : PySem.W.codeIn K fcd26 "_law_runs" = true) (k26 : PySem.W.keepIn K (.ref f26) = true)
    (a27 : PySem.W.nsIn K mainGlobals "_law_refused" = some (some (.ref f27))) (l27 : K.lookup f27 = some ⟨foc27, fod27, .func (PySem.W.fnOf "_law_refused" "_law_refused" (defArgs sRef) (defBody sRef) (defScope sRef) .none fkV27 fdoc27 fpm27 fan27 fcd27 fct27), fsl27⟩) (c27 : PySem.W.codeIn K fcd27 "_law_refused" = true) (k27 : PySem.W.keepIn K (.ref f27) = true)
    (a28 : PySem.W.nsIn K mainGlobals "_law_spoiled" = some (some (.ref f28))) (l28 : K.lookup f28 = some ⟨foc28, fod28, .func (PySem.W.fnOf "_law_spoiled" "_law_spoiled" (defArgs sSpoil) (defBody sSpoil) (defScope sSpoil) .none fkV28 fdoc28 fpm28 fan28 fcd28 fct28), fsl28⟩) (c28 : PySem.W.codeIn K fcd28 "_law_spoiled" = true) (k28 : PySem.W.keepIn K (.ref f28) = true)
    (a29 : PySem.W.nsIn K mainGlobals "_law_placed_right" = some (some (.ref f29))) (l29 : K.lookup f29 = some ⟨foc29, fod29, .func (PySem.W.fnOf "_law_placed_right" "_law_placed_right" (defArgs sPR) (defBody sPR) (defScope sPR) .none fkV29 fdoc29 fpm29 fan29 (.ref cA29) fct29), fsl29⟩) (c29 : PySem.W.codeIn K (.ref cA29) "_law_placed_right" = true) (k29 : PySem.W.keepIn K (.ref f29) = true)
    (a30 : PySem.W.nsIn K mainGlobals "law" = some (some (.ref f30))) (l30 : K.lookup f30 = some ⟨foc30, fod30, .func (PySem.W.fnOf "law" "law" (defArgs sLaw) (defBody sLaw) (defScope sLaw) .none fkV30 fdoc30 fpm30 fan30 (.ref cA30) fct30), fsl30⟩) (c30 : PySem.W.codeIn K (.ref cA30) "law" = true) (k30 : PySem.W.keepIn K (.ref f30) = true)
    (kd_29 : K.lookup cA29 = some ⟨kcl29, kcd29, .fields kvs29, ksl29⟩) (pt29 : kvs29[11]? = some (.ref cP29)) (hd29 : PySem.W.codeHdIn K cA29 cP29 = true) (np29 : K.lookup cP29 = none) (tb29 : h.get? cP29 = some { cls := .none, data := .fields #[] })
    (kd_30 : K.lookup cA30 = some ⟨kcl30, kcd30, .fields kvs30, ksl30⟩) (pt30 : kvs30[11]? = some (.ref cP30)) (hd30 : PySem.W.codeHdIn K cA30 cP30 = true) (np30 : K.lookup cP30 = none) (tb30 : h.get? cP30 = some { cls := .none, data := .fields #[] })
    (nep : cP30 ≠ cP29)
    (rel : relB K [C0, C1] = true)
    (op : PySem.W.nsIn K PySem.cStatics "thirdparty.any" = some none) (su : PySem.W.nsIn K mainGlobals "super" = some none) (htop : (l.prog.main.scope.names.lookup ("super" : Str)).isSome = false)
    (aWays : PySem.W.nsIn K mainGlobals "WAYS" = some (some (.ref aW))) (lWays : K.lookup aW = some ⟨.type "tuple", wod, .seq #[.str "plain" t1, .str "stones" t2, .str "sorted" t3] wn, wsl⟩) (aStone : PySem.W.nsIn K mainGlobals "STONE" = some (some (.str "stone" tS)))
    (z0 : PySem.W.nsIn K mainGlobals "isinstance" = some none)
    (z1 : PySem.W.nsIn K mainGlobals "int" = some none)
    (z2 : PySem.W.nsIn K mainGlobals "bool" = some none)
    (z3 : PySem.W.nsIn K mainGlobals "str" = some none)
    (z4 : PySem.W.nsIn K mainGlobals "tuple" = some none)
    (z5 : PySem.W.nsIn K mainGlobals "list" = some none)
    (z6 : PySem.W.nsIn K mainGlobals "len" = some none)
    (z7 : PySem.W.nsIn K mainGlobals "set" = some none)
    (z8 : PySem.W.nsIn K mainGlobals "all" = some none)
    (z9 : PySem.W.nsIn K mainGlobals "any" = some none)
    (z10 : PySem.W.nsIn K mainGlobals "range" = some none)
    (z11 : PySem.W.nsIn K mainGlobals "min" = some none)
    (z12 : PySem.W.nsIn K mainGlobals "repr" = some none)
    (z13 : PySem.W.nsIn K mainGlobals "sorted" = some none)
    : LamX.LawAtS l w K CX0 12 63 "script" mg fa h := by
  have e := hfa.symm.trans (PySem.W.mg_of X G a30)
  cases e
  have E0 := ex_mk X G text0 aC0 xC0 rfl lI0 cd0 ce0 ca0 hv0 hf0 ch0 op su htop
  have E1 := ex_mk X G text1 aC1 xC1 rfl lI1 cd1 ce1 ca1 hv1 hf1 ch1 op su htop
  have EXt : EX l.prog K mg C0 C1 fI0 fI1 := ⟨E0, E1⟩
  have hs := fun i j hi hj => relB_ok (i := i) (j := j) rel hi hj
  have S : Rel2 K C0 C1 := ⟨PySem.W.exm_ref E1.exC E1.hdC E1.tyC (hs 1 1 (by show 1 < 2; decide) (by show 1 < 2; decide)), PySem.W.exm_ref E1.exC E1.hdC E1.tyC (hs 0 1 (by show 0 < 2; decide) (by show 1 < 2; decide)), PySem.W.exm_ref E0.exC E0.hdC E0.tyC (hs 0 0 (by show 0 < 2; decide) (by show 0 < 2; decide))⟩
  have GT_ : GT mg := ⟨PySem.W.mg_none_of X G z0, PySem.W.mg_none_of X G z1, PySem.W.mg_none_of X G z2, PySem.W.mg_none_of X G z3, PySem.W.mg_none_of X G z4, PySem.W.mg_none_of X G z5, PySem.W.mg_none_of X G z6, PySem.W.mg_none_of X G z7, PySem.W.mg_none_of X G z8, PySem.W.mg_none_of X G z9, PySem.W.mg_none_of X G z10⟩
  have GT2_ : GT2 mg := ⟨PySem.W.mg_none_of X G z11, PySem.W.mg_none_of X G z5, PySem.W.mg_none_of X G z12, PySem.W.mg_none_of X G z13⟩
  have hW : WaysAt K mg := ⟨aW, PySem.W.mg_of X G aWays, fun H => sqT_top (xs := [V.str "plain", V.str "stones", V.str "sorted"]) lWays (by show 3 ≤ sizeLine; decide) (.cons (show RelV (V.str "plain") (.str "plain" t1) from ⟨t1, rfl⟩) (.cons (show RelV (V.str "stones") (.str "stones" t2) from ⟨t2, rfl⟩) (.cons (show RelV (V.str "sorted") (.str "sorted" t3) from ⟨t3, rfl⟩) .nil))) H⟩
  have hSt : ∃ t, mg "STONE" = some (.str "stone" t) := ⟨tS, PySem.W.mg_of X G aStone⟩
  have F0 := fun_mk (st := sWhole) l0 c0 k0
  have b0 := F0.binds (ps := ["value"]) fun _ _ _ _ _ _ us hl => match us, hl with | [_], _ => rfl
  have R0 : Raw K mg "is_whole" sWhole ["value"] := ⟨f0, _, F0, PySem.W.mg_of X G a0, b0⟩
  have F1 := fun_mk (st := sPair) l1 c1 k1
  have b1 := F1.binds (ps := ["value"]) fun _ _ _ _ _ _ us hl => match us, hl with | [_], _ => rfl
  have R1 : Raw K mg "is_pair" sPair ["value"] := ⟨f1, _, F1, PySem.W.mg_of X G a1, b1⟩
  have F2 := fun_mk (st := sItem) l2 c2 k2
  have b2 := F2.binds (ps := ["value"]) fun _ _ _ _ _ _ us hl => match us, hl with | [_], _ => rfl
  have R2 : Raw K mg "is_item" sItem ["value"] := ⟨f2, _, F2, PySem.W.mg_of X G a2, b2⟩
  have F3 := fun_mk (st := sRow) l3 c3 k3
  have b3 := F3.binds (ps := ["value"]) fun _ _ _ _ _ _ us hl => match us, hl with | [_], _ => rfl
  have R3 : Raw K mg "is_row" sRow ["value"] := ⟨f3, _, F3, PySem.W.mg_of X G a3, b3⟩
  have F4 := fun_mk (st := sKeys) l4 c4 k4
  have b4 := F4.binds (ps := ["items"]) fun _ _ _ _ _ _ us hl => match us, hl with | [_], _ => rfl
  have R4 : Raw K mg "keys_differ" sKeys ["items"] := ⟨f4, _, F4, PySem.W.mg_of X G a4, b4⟩
  have F5 := fun_mk (st := sItems) l5 c5 k5
  have b5 := F5.binds (ps := ["rows"]) fun _ _ _ _ _ _ us hl => match us, hl with | [_], _ => rfl
  have R5 : Raw K mg "items_of" sItems ["rows"] := ⟨f5, _, F5, PySem.W.mg_of X G a5, b5⟩
  have F6 := fun_mk (st := sRing) l6 c6 k6
  have b6 := F6.binds (ps := ["value"]) fun _ _ _ _ _ _ us hl => match us, hl with | [_], _ => rfl
  have R6 : Raw K mg "is_ring" sRing ["value"] := ⟨f6, _, F6, PySem.W.mg_of X G a6, b6⟩
  have F7 := fun_mk (st := sWay) l7 c7 k7
  have b7 := F7.binds (ps := ["value"]) fun _ _ _ _ _ _ us hl => match us, hl with | [_], _ => rfl
  have R7 : Raw K mg "is_way" sWay ["value"] := ⟨f7, _, F7, PySem.W.mg_of X G a7, b7⟩
  have F8 := fun_mk (st := sCkR) l8 c8 k8
  have b8 := F8.binds (ps := ["ring"]) fun _ _ _ _ _ _ us hl => match us, hl with | [_], _ => rfl
  have R8 : Raw K mg "check_ring" sCkR ["ring"] := ⟨f8, _, F8, PySem.W.mg_of X G a8, b8⟩
  have F9 := fun_mk (st := sCkW) l9 c9 k9
  have b9 := F9.binds (ps := ["way"]) fun _ _ _ _ _ _ us hl => match us, hl with | [_], _ => rfl
  have R9 : Raw K mg "check_way" sCkW ["way"] := ⟨f9, _, F9, PySem.W.mg_of X G a9, b9⟩
  have F10 := fun_mk (st := sHome) l10 c10 k10
  have b10 := F10.binds (ps := ["item", "many"]) fun _ _ _ _ _ _ us hl => match us, hl with | [_, _], _ => rfl
  have R10 : Raw K mg "home" sHome ["item", "many"] := ⟨f10, _, F10, PySem.W.mg_of X G a10, b10⟩
  have F11 := fun_mk (st := sDist) l11 c11 k11
  have b11 := F11.binds (ps := ["one", "other", "many"]) fun _ _ _ _ _ _ us hl => match us, hl with | [_, _, _], _ => rfl
  have R11 : Raw K mg "distance" sDist ["one", "other", "many"] := ⟨f11, _, F11, PySem.W.mg_of X G a11, b11⟩
  have F12 := fun_mk (st := sGap) l12 c12 k12
  have b12 := F12.binds (ps := ["rows", "row"]) fun _ _ _ _ _ _ us hl => match us, hl with | [_, _], _ => rfl
  have R12 : Raw K mg "gap" sGap ["rows", "row"] := ⟨f12, _, F12, PySem.W.mg_of X G a12, b12⟩
  have F13 := fun_mk (st := sRuns) l13 c13 k13
  have b13 := F13.binds (ps := ["ring"]) fun _ _ _ _ _ _ us hl => match us, hl with | [_], _ => rfl
  have R13 : Raw K mg "runs" sRuns ["ring"] := ⟨f13, _, F13, PySem.W.mg_of X G a13, b13⟩
  have F14 := fun_mk (st := sAll) l14 c14 k14
  have b14 := F14.binds (ps := ["ring"]) fun _ _ _ _ _ _ us hl => match us, hl with | [_], _ => rfl
  have R14 : Raw K mg "all_items" sAll ["ring"] := ⟨f14, _, F14, PySem.W.mg_of X G a14, b14⟩
  have F15 := fun_mk (st := sReach) l15 c15 k15
  have b15 := F15.binds (ps := ["ring"]) fun _ _ _ _ _ _ us hl => match us, hl with | [_], _ => rfl
  have R15 : Raw K mg "is_reached" sReach ["ring"] := ⟨f15, _, F15, PySem.W.mg_of X G a15, b15⟩
  have F16 := fun_mk (st := sOrder) l16 c16 k16
  have b16 := F16.binds (ps := ["ring"]) fun _ _ _ _ _ _ us hl => match us, hl with | [_], _ => rfl
  have R16 : Raw K mg "is_in_order" sOrder ["ring"] := ⟨f16, _, F16, PySem.W.mg_of X G a16, b16⟩
  have F17 := fun_mk (st := sLawful) l17 c17 k17
  have b17 := F17.binds (ps := ["ring", "way"]) fun _ _ _ _ _ _ us hl => match us, hl with | [_, _], _ => rfl
  have R17 : Raw K mg "is_lawful" sLawful ["ring", "way"] := ⟨f17, _, F17, PySem.W.mg_of X G a17, b17⟩
  have F18 := fun_mk (st := sSettle) l18 c18 k18
  have b18 := F18.binds (ps := ["rows", "item"]) fun _ _ _ _ _ _ us hl => match us, hl with | [_, _], _ => rfl
  have R18 : Raw K mg "settle" sSettle ["rows", "item"] := ⟨f18, _, F18, PySem.W.mg_of X G a18, b18⟩
  have F19 := fun_mk (st := sAre) l19 c19 k19
  have b19 := F19.binds (ps := ["value"]) fun _ _ _ _ _ _ us hl => match us, hl with | [_], _ => rfl
  have R19 : Raw K mg "are_items" sAre ["value"] := ⟨f19, _, F19, PySem.W.mg_of X G a19, b19⟩
  have F20 := fun_mk (st := sPlaced) l20 c20 k20
  have b20 := F20.binds (ps := ["items", "many", "way"]) fun _ _ _ _ _ _ us hl => match us, hl with | [_, _, _], _ => rfl
  have R20 : Raw K mg "placed" sPlaced ["items", "many", "way"] := ⟨f20, _, F20, PySem.W.mg_of X G a20, b20⟩
  have F21 := fun_mk (st := sBag) l21 c21 k21
  have b21 := F21.binds (ps := ["script"]) fun _ _ _ _ _ _ us hl => match us, hl with | [_], _ => rfl
  have R21 : Raw K mg "_law_bag" sBag ["script"] := ⟨f21, _, F21, PySem.W.mg_of X G a21, b21⟩
  have F22 := fun_mk (st := sDraw) l22 c22 k22
  have b22 := F22.binds (ps := ["bag", "limit"]) fun _ _ _ _ _ _ us hl => match us, hl with | [_, _], _ => rfl
  have R22 : Raw K mg "_law_draw" sDraw ["bag", "limit"] := ⟨f22, _, F22, PySem.W.mg_of X G a22, b22⟩
  have F23 := fun_mk (st := sLLaw) l23 c23 k23
  have b23 := F23.binds (ps := ["ring", "way"]) fun _ _ _ _ _ _ us hl => match us, hl with | [_, _], _ => rfl
  have R23 : Raw K mg "_law_lawful" sLLaw ["ring", "way"] := ⟨f23, _, F23, PySem.W.mg_of X G a23, b23⟩
  have F24 := fun_mk (st := sLItems) l24 c24 k24
  have b24 := F24.binds (ps := ["bag", "many", "hashes", "first"]) fun _ _ _ _ _ _ us hl => match us, hl with | [_, _, _, _], _ => rfl
  have R24 : Raw K mg "_law_items" sLItems ["bag", "many", "hashes", "first"] := ⟨f24, _, F24, PySem.W.mg_of X G a24, b24⟩
  have F25 := fun_mk (st := sDrawn) l25 c25 k25
  have b25 := F25.binds (ps := ["bag", "way", "hashes"]) fun _ _ _ _ _ _ us hl => match us, hl with | [_, _, _], _ => rfl
  have R25 : Raw K mg "_law_drawn" sDrawn ["bag", "way", "hashes"] := ⟨f25, _, F25, PySem.W.mg_of X G a25, b25⟩
  have F26 := fun_mk (st := sLRuns) l26 c26 k26
  have b26 := F26.binds (ps := ["ring"]) fun _ _ _ _ _ _ us hl => match us, hl with | [_], _ => rfl
  have R26 : Raw K mg "_law_runs" sLRuns ["ring"] := ⟨f26, _, F26, PySem.W.mg_of X G a26, b26⟩
  have F27 := fun_mk (st := sRef) l27 c27 k27
  have b27 := F27.binds (ps := ["action"]) fun _ _ _ _ _ _ us hl => match us, hl with | [_], _ => rfl
  have R27 : Raw K mg "_law_refused" sRef ["action"] := ⟨f27, _, F27, PySem.W.mg_of X G a27, b27⟩
  have F28 := fun_mk (st := sSpoil) l28 c28 k28
  have b28 := F28.binds (ps := ["bag", "ring"]) fun _ _ _ _ _ _ us hl => match us, hl with | [_, _], _ => rfl
  have R28 : Raw K mg "_law_spoiled" sSpoil ["bag", "ring"] := ⟨f28, _, F28, PySem.W.mg_of X G a28, b28⟩
  have F29 := fun_mk (st := sPR) l29 c29 k29
  have b29 := F29.binds (ps := ["bag", "hashes"]) fun _ _ _ _ _ _ us hl => match us, hl with | [_, _], _ => rfl
  have R29 : Raw K mg "_law_placed_right" sPR ["bag", "hashes"] := ⟨f29, _, F29, PySem.W.mg_of X G a29, b29⟩
  have F30 := fun_mk (st := sLaw) l30 c30 k30
  have BT : BTxt mg := ⟨PySem.W.mg_none_of X G z6, PySem.W.mg_none_of X G z1, PySem.W.mg_none_of X G z5⟩
  refine ⟨PySem.W.fnOf "law" "law" (defArgs sLaw) (defBody sLaw) (defScope sLaw) .none fkV30 fdoc30 fpm30 fan30 (.ref cA30) fct30, [(cA30, cP30), (cA29, cP29)], spLaw K [(cP30, "law.<locals>.<lambda>"), (cP29, "_law_placed_right.<locals>.<lambda>")], ?_, ?_, ?_, fun s v => .of_eq rfl, ?_, fun base KB NB TB => ?_⟩
  · intro p hp
    simp only [List.mem_cons, List.not_mem_nil, or_false] at hp
    rcases hp with e | e <;> subst e
    · exact tb30
    · exact tb29
  · intro p hp
    simp only [List.mem_cons, List.not_mem_nil, or_false] at hp
    rcases hp with e | e <;> subst e
    · exact np30
    · exact np29
  · intro p hp
    simp only [List.mem_cons, List.not_mem_nil, or_false] at hp
    rcases hp with e | e <;> subst e
    · exact PySem.W.codeHd_of_K X hd30
    · exact PySem.W.codeHd_of_K X hd29
  · intro H a ns hl _ hT hS
    refine ⟨a, ns, rfl, hS, hl, fun p hp => ?_, fun _ => rfl⟩
    simp only [List.mem_cons, List.not_mem_nil, or_false] at hp
    rcases hp with e | e <;> subst e
    · exact LamX.TabS.nil (hT _ List.mem_cons_self)
    · exact LamX.TabS.nil (hT _ (List.mem_cons_of_mem _ List.mem_cons_self))
  · have LL : Lam base mg [(cP30, "law.<locals>.<lambda>"), (cP29, "_law_placed_right.<locals>.<lambda>")] cA30 cP30 "law.<locals>.<lambda>" := ⟨TB _ List.mem_cons_self, List.mem_cons_self, fun p hp e => by
      simp only [List.mem_cons, List.not_mem_nil, or_false] at hp
      rcases hp with z | z <;> subst z
      · rfl
      · exact absurd e.symm nep⟩
    have LP : Lam base mg [(cP30, "law.<locals>.<lambda>"), (cP29, "_law_placed_right.<locals>.<lambda>")] cA29 cP29 "_law_placed_right.<locals>.<lambda>" := ⟨TB _ (List.mem_cons_of_mem _ List.mem_cons_self), List.mem_cons_of_mem _ List.mem_cons_self, fun p hp e => by
      simp only [List.mem_cons, List.not_mem_nil, or_false] at hp
      rcases hp with z | z <;> subst z
      · exact absurd e nep
      · rfl⟩
    have dWhole : Def l.prog w K mg base CX0 "is_whole" 1 ["value"] (spB K wholeD) := ok_whole R0 GT_
    have dPair : Def l.prog w K mg base CX0 "is_pair" 2 ["value"] (spB K prD) := ok_pair R1 GT_ dWhole
    have dItem : Def l.prog w K mg base CX0 "is_item" 3 ["value"] (spB K itemD) := ok_item R2 GT_ dWhole dPair
    have dRow : Def l.prog w K mg base CX0 "is_row" 4 ["value"] (spB K rowD) := ok_row R3 GT_ hSt dItem
    have dKeys : Def l.prog w K mg base CX0 "keys_differ" 1 ["items"] (spKeys K) := ok_keys R4 GT_
    have dItems : Def l.prog w K mg base CX0 "items_of" 1 ["rows"] (spItems K) := ok_items R5 GT_
    have dRing : Def l.prog w K mg base CX0 "is_ring" 5 ["value"] (spS K ringD) := ok_ring R6 GT_ dRow dKeys dItems
    have dWay : Def l.prog w K mg base CX0 "is_way" 1 ["value"] (spB K wayD) := ok_way R7 GT_ hW
    have dCkR : Def l.prog w K mg base (L2.CX l.prog w) "check_ring" 6 ["ring"] (spCk K C1 "ring" ringD) := ok_ckR R8 EXt dRing
    have dCkW : Def l.prog w K mg base (L2.CX l.prog w) "check_way" 2 ["way"] (spCk K C0 "way" wayD) := ok_ckW R9 EXt dWay
    have dHome : Def l.prog w K mg base CX0 "home" 1 ["item", "many"] (spHome K) := ok_home R10
    have dDist : Def l.prog w K mg base CX0 "distance" 1 ["one", "other", "many"] spDist := ok_dist R11
    have dGap : Def l.prog w K mg base CX0 "gap" 2 ["rows", "row"] (spGap K) := ok_gap R12 GT_ dHome dDist
    have dRuns : Def l.prog w K mg base (L2.CX l.prog w) "runs" 7 ["ring"] (spRuns K C1) := ok_runs R13 GT_ dCkR
    have dAll : Def l.prog w K mg base (L2.CX l.prog w) "all_items" 7 ["ring"] (spAll K C1) := ok_all R14 GT_ dCkR dItems
    have dReach : Def l.prog w K mg base (L2.CX l.prog w) "is_reached" 8 ["ring"] (spReach K) := ok_reach R15 GT_ dRuns dGap
    have dOrder : Def l.prog w K mg base CX0 "is_in_order" 3 ["ring"] (spOrder K) := ok_order R16 GT_ dGap
    have dLawful : Def l.prog w K mg base (L2.CX l.prog w) "is_lawful" 9 ["ring", "way"] (spLawful K C0 C1) := ok_lawful R17 GT_ hSt dCkR dCkW dReach dOrder
    have dSettle : Def l.prog w K mg base CX0 "settle" 3 ["rows", "item"] (spSettle K) := ok_settle R18 GT_ dHome dDist dGap
    have dAre : Def l.prog w K mg base CX0 "are_items" 4 ["value"] (spAre K) := ok_are R19 GT_ dItem dKeys
    have dPlaced : Def l.prog w K mg base (L2.CX l.prog w) "placed" 5 ["items", "many", "way"] (spPlaced K C0 C1) := ok_placed R20 GT_ EXt dAre dCkW dSettle
    have dBag : Def l.prog w K mg base CX0 "_law_bag" 1 ["script"] (spBag K) := ⟨f21, _, ok_bag F21 BT, PySem.W.mg_of X G a21, F21.kp, b21⟩
    have dDraw : DDraw l.prog w K mg base := ⟨f22, _, ok_draw F22 BT, PySem.W.mg_of X G a22, F22.kp, b22⟩
    have dLL : Def l.prog w K mg base CX0 "_law_lawful" 1 ["ring", "way"] (spLLaw K) := ok_llaw R23 GT_
    have dLI : Def l.prog w K mg base CX0 "_law_items" 2 ["bag", "many", "hashes", "first"] (spLItems K) := ok_litems R24 GT_ dDraw
    have dLD : Def l.prog w K mg base CX0 "_law_drawn" 3 ["bag", "way", "hashes"] (spDrawn K) := ok_drawn R25 GT_ GT2_ dDraw dLI
    have dLR : Def l.prog w K mg base CX0 "_law_runs" 1 ["ring"] (spLRuns K) := ok_lruns R26 GT_
    have dSp : Def l.prog w K mg base CX0 "_law_spoiled" 2 ["bag", "ring"] (spSpoil K) := ok_spoil R28 GT_ GT2_ dDraw
    have dPR := ok_pr (P := l.prog) (w := w) (base := base) (c0 := cA29) R29 (fun f fd hm F => by
      have e := hm.symm.trans (PySem.W.mg_of X G a29)
      cases e
      obtain ⟨_, _, _, _, _, _, _, _, _, e1, e2, _⟩ := F.ex
      rw [l29] at e2
      cases e2
      rfl) GT_ GT2_ R27 EXt S LP dPlaced dDraw dLI dRing dAll dLL
    exact ok_law F30 rfl GT_ GT2_ R27 EXt S LL dDraw dBag dLD dRing dSp dLawful dRuns dAll dPR dDist dLR dLL dHome
theorem walk {l : PySem.W.OpenLaw} {q : Program} {loose : List Str} {XP : (Str → Option Value) → Heap → Prop} {YP : World → Heap → Prop} {d : DefRec} {K : Params → PySem.W.Frag} (hn : l.most = some 63) (hdf : d.params.defaults = [])
    (hY : ∀ (w : World) (h : Heap), YP w h → (K w.params).In h)
    (F : ∀ (w : World) (mg : Str → Option Value) (fa : Addr) (h : Heap), YP w h → (K w.params).In h → h.Ns mainGlobals mg → mg d.name = some (.ref fa) → LamX.LawAtS l w (K w.params) CX0 12 63 "script" mg fa h) :
    PySem.W.WalkO q loose XP YP l.row.toRowW d [] (fun f vs => PySem.call f vs) :=
  LamX.walk_ofTs (n := 63) (k := 12) (x := "script") (CX := fun _ => CX0) hn (by decide) hdf ⟨rfl, by decide, by decide⟩ hY F fun _ _ _ _ _ z => z
end K40

open PySem PySem.W PyProof.Rows
set_option maxRecDepth 100000 in
set_option maxHeartbeats 0 in
theorem PySem.Challenge.cw_openrings_k40_rings_told_holds : PySem.Challenge.rw_openrings_k40_rings_told.Holds := by
  w_on; o_law; k_head; (case hw => w_witness2)
  k_fill
  refine K40.walk (l := PySem.Challenge.rw_openrings_k40_rings_told) rfl rfl (fun w h Y => PySem.W.km_in_of Y) ?F
  case F =>
    intro w mg fa h Y KX G hmg
    refine' K40.all_mk KX G hmg ?aC0 ?xC0 ?iC0 ?lI0 ?cd0 ?ce0 ?ca0 ?hv0 ?hf0 ?ch0 ?aC1 ?xC1 ?iC1 ?lI1 ?cd1 ?ce1 ?ca1 ?hv1 ?hf1 ?ch1 ?a0 ?l0 ?c0 ?k0 ?a1 ?l1 ?c1 ?k1 ?a2 ?l2 ?c2 ?k2 ?a3 ?l3 ?c3 ?k3 ?a4 ?l4 ?c4 ?k4 ?a5 ?l5 ?c5 ?k5 ?a6 ?l6 ?c6 ?k6 ?a7 ?l7 ?c7 ?k7 ?a8 ?l8 ?c8 ?k8 ?a9 ?l9 ?c9 ?k9 ?a10 ?l10 ?c10 ?k10 ?a11 ?l11 ?c11 ?k11 ?a12 ?l12 ?c12 ?k12 ?a13 ?l13 ?c13 ?k13 ?a14 ?l14 ?c14 ?k14 ?a15 ?l15 ?c15 ?k15 ?a16 ?l16 ?c16 ?k16 ?a17 ?l17 ?c17 ?k17 ?a18 ?l18 ?c18 ?k18 ?a19 ?l19 ?c19 ?k19 ?a20 ?l20 ?c20 ?k20 ?a21 ?l21 ?c21 ?k21 ?a22 ?l22 ?c22 ?k22 ?a23 ?l23 ?c23 ?k23 ?a24 ?l24 ?c24 ?k24 ?a25 ?l25 ?c25 ?k25 ?a26 ?l26 ?c26 ?k26 ?a27 ?l27 ?c27 ?k27 ?a28 ?l28 ?c28 ?k28 ?a29 ?l29 ?c29 ?k29 ?a30 ?l30 ?c30 ?k30 ?kd_29 ?pt29 ?hd29 ?np29 ?tb29 ?kd_30 ?pt30 ?hd30 ?np30 ?tb30 ?nep ?rel ?op ?su ?htop ?aWays ?lWays ?aStone ?z0 ?z1 ?z2 ?z3 ?z4 ?z5 ?z6 ?z7 ?z8 ?z9 ?z10 ?z11 ?z12 ?z13
    (case aC0 => k_is)
    (case xC0 => k_is)
    (case iC0 => k_is)
    (case lI0 => k_is)
    (case cd0 => k_is)
    (case ce0 => k_is)
    (case ca0 => k_is)
    (case hv0 => rfl)
    (case hf0 => rfl)
    (case ch0 => kernel_rfl)
    (case aC1 => k_is)
    (case xC1 => k_is)
    (case iC1 => k_is)
    (case lI1 => k_is)
    (case cd1 => k_is)
    (case ce1 => k_is)
    (case ca1 => k_is)
    (case hv1 => rfl)
    (case hf1 => rfl)
    (case ch1 => kernel_rfl)
    (case a0 => k_is)
    (case l0 => k_is)
    (case c0 => k_is)
    (case k0 => k_is)
    (case a1 => k_is)
    (case l1 => k_is)
    (case c1 => k_is)
    (case k1 => k_is)
    (case a2 => k_is)
    (case l2 => k_is)
    (case c2 => k_is)
    (case k2 => k_is)
    (case a3 => k_is)
    (case l3 => k_is)
    (case c3 => k_is)
    (case k3 => k_is)
    (case a4 => k_is)
    (case l4 => k_is)
    (case c4 => k_is)
    (case k4 => k_is)
    (case a5 => k_is)
    (case l5 => k_is)
    (case c5 => k_is)
    (case k5 => k_is)
    (case a6 => k_is)
    (case l6 => k_is)
    (case c6 => k_is)
    (case k6 => k_is)
    (case a7 => k_is)
    (case l7 => k_is)
    (case c7 => k_is)
    (case k7 => k_is)
    (case a8 => k_is)
    (case l8 => k_is)
    (case c8 => k_is)
    (case k8 => k_is)
    (case a9 => k_is)
    (case l9 => k_is)
    (case c9 => k_is)
    (case k9 => k_is)
    (case a10 => k_is)
    (case l10 => k_is)
    (case c10 => k_is)
    (case k10 => k_is)
    (case a11 => k_is)
    (case l11 => k_is)
    (case c11 => k_is)
    (case k11 => k_is)
    (case a12 => k_is)
    (case l12 => k_is)
    (case c12 => k_is)
    (case k12 => k_is)
    (case a13 => k_is)
    (case l13 => k_is)
    (case c13 => k_is)
    (case k13 => k_is)
    (case a14 => k_is)
    (case l14 => k_is)
    (case c14 => k_is)
    (case k14 => k_is)
    (case a15 => k_is)
    (case l15 => k_is)
    (case c15 => k_is)
    (case k15 => k_is)
    (case a16 => k_is)
    (case l16 => k_is)
    (case c16 => k_is)
    (case k16 => k_is)
    (case a17 => k_is)
    (case l17 => k_is)
    (case c17 => k_is)
    (case k17 => k_is)
    (case a18 => k_is)
    (case l18 => k_is)
    (case c18 => k_is)
    (case k18 => k_is)
    (case a19 => k_is)
    (case l19 => k_is)
    (case c19 => k_is)
    (case k19 => k_is)
    (case a20 => k_is)
    (case l20 => k_is)
    (case c20 => k_is)
    (case k20 => k_is)
    (case a21 => k_is)
    (case l21 => k_is)
    (case c21 => k_is)
    (case k21 => k_is)
    (case a22 => k_is)
    (case l22 => k_is)
    (case c22 => k_is)
    (case k22 => k_is)
    (case a23 => k_is)
    (case l23 => k_is)
    (case c23 => k_is)
    (case k23 => k_is)
    (case a24 => k_is)
    (case l24 => k_is)
    (case c24 => k_is)
    (case k24 => k_is)
    (case a25 => k_is)
    (case l25 => k_is)
    (case c25 => k_is)
    (case k25 => k_is)
    (case a26 => k_is)
    (case l26 => k_is)
    (case c26 => k_is)
    (case k26 => k_is)
    (case a27 => k_is)
    (case l27 => k_is)
    (case c27 => k_is)
    (case k27 => k_is)
    (case a28 => k_is)
    (case l28 => k_is)
    (case c28 => k_is)
    (case k28 => k_is)
    (case a29 => k_is)
    (case l29 => k_is)
    (case c29 => k_is)
    (case k29 => k_is)
    (case a30 => k_is)
    (case l30 => k_is)
    (case c30 => k_is)
    (case k30 => k_is)
    (case kd_29 => k_is)
    (case pt29 => rfl)
    (case hd29 => kernel_rfl)
    (case np29 => kernel_rfl)
    (case tb29 => exact PySem.W.km_tabs_of Y _ (by first | k_mem | decide | simp))
    (case kd_30 => k_is)
    (case pt30 => rfl)
    (case hd30 => kernel_rfl)
    (case np30 => kernel_rfl)
    (case tb30 => exact PySem.W.km_tabs_of Y _ (by first | k_mem | decide | simp))
    (case nep => decide)
    (case rel => kernel_rfl)
    (case op => k_is)
    (case su => k_is)
    (case htop => rfl)
    (case aWays => k_is)
    (case lWays => k_is)
    (case aStone => k_is)
    (case z0 => k_is)
    (case z1 => k_is)
    (case z2 => k_is)
    (case z3 => k_is)
    (case z4 => k_is)
    (case z5 => k_is)
    (case z6 => k_is)
    (case z7 => k_is)
    (case z8 => k_is)
    (case z9 => k_is)
    (case z10 => k_is)
    (case z11 => k_is)
    (case z12 => k_is)
    (case z13 => k_is)

