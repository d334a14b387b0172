import PyProof.Rows.All
import Wide.All
import OpenK.AllK
import Wide.FinOn
import PySem.Challenge.RW_openrings_k01_codes_made_and_refused
import PyProof.EqAt
import PyProof.EqKinds
import PyProof.TupleCall
import KE.KFromBytes
import KE.KSuper
import KE.KExcSuper
import HandS.Base
import HandS.Call
import HandS.Exc
import HandS.ExcInit
import HandS.ForExc
import HandS.ExcField
import HandS.ExcIs
import HandS.IsInst
import KE.KExcIs
import PyProof.P3Statements
import PyProof.Lay0
import HandS.ForMost
import HandS.Wide
import HandS.Style
import HandS.Zip
import HandS.TupSets
import HandS.TupAny
import KE.GoesEnumKw
import HandS.WrittenGet
import KE.KDictZip
import PyProof.ListNew
import HandS.Conv
import PyProof.StrLawsChain
import PyProof.Rows.StrItems
import KE.KDictCopyH
import HandS.OwnEq
import HandS.More
import HandS.Text
import PyProof.StrBlock2
set_option Elab.async false
set_option linter.all false
set_option maxRecDepth 100000
set_option maxHeartbeats 4000000
/-! ## An exception class over a class of one's own over ValueError: super().__init__('..'), then self.f = f for each of its fields -/
namespace PySem
namespace RingX
open PySem.W PySem.Calls PyProof.Rows PySem.HandSPX

structure SetP where
  (p1 p2 p3 p4 : Pos)
structure SupP where
  (q0 q1 q2 q3 q4 q5 : Pos)
def exArgs (ps : Pos) (fs : List (Str × Pos)) : Arguments := { posonlyargs := [], args := { arg := "self", annotation := none, pos := ps } :: fs.map (fun f => { arg := f.1, annotation := none, pos := f.2 }), vararg := none, kwonlyargs := [], kw_defaults := [], kwarg := none, defaults := [] }
def exSup (t : Str) (q : SupP) : Stmt := .Expr (.Call (.Attribute (.Call (.Name "super" q.q0) [] [] q.q1) "__init__" q.q2) [.Constant (.str t) 0 q.q3] [] q.q4) q.q5
def exSet (f : Str × SetP) : Stmt := .Assign [.Attribute (.Name "self" f.2.p1) f.1 f.2.p2] (.Name f.1 f.2.p3) f.2.p4
def exScope (fs : List Str) : Scope := { kind := .function, names := ("self", NameKind.local) :: ((fs.map fun f => (f, NameKind.local)) ++ [(("__class__" : Str), NameKind.free), (("super" : Str), NameKind.globalImplicit)]), isGenerator := false, isCoroutine := false, more := [] }
/-- what is asked of the fields' names -/
def namesOk (fs : List Str) : Bool :=
  (exScope fs).names.lookup ("super" : Str) == some NameKind.globalImplicit && (exScope fs).names.lookup ("__class__" : Str) == some NameKind.free && (exScope fs).names.lookup ("self" : Str) == some NameKind.local &&
    decide fs.Nodup && fs.all fun f => (exScope fs).names.lookup f == some NameKind.local && !(f == ("__debug__" : Str)) && !(f == ("self" : Str))

/-- what the written part says of the class at C, and of its __init__ at fI -/
structure ExTxt (prog : Program) (K : Frag) (mg : Str → Option Value) (C fI : Addr) (nm : Str) (fs : List Str) : Prop where
  gC : mg nm = some (.ref C)
  cls : ∃ cn q N bs bm sn sub ab col dd k0 k1 k2 k3 k5, K.lookup C = some (excClassObj cn q C N bs bm true sn sub ab col dd k0 k1 k2 k3 k5 "ValueError.__new__") ∧ refsVE bm = true
  sa : findIn K (.ref C) "__setattr__" = some (some (.builtin "object.__setattr__"))
  ga : findIn K (.ref C) "__getattribute__" = some (some (.builtin "BaseException.__getattribute__"))
  gg : findIn K (.ref C) "__getattr__" = some none
  noN : ∀ f ∈ fs, findIn K (.ref C) f = some none
  iC : findIn K (.ref C) "__init__" = some (some (.ref fI))
  tC : typeIn K (.ref fI) = some (.type "function")
  kC : keepIn K (.ref C) = true
  exC : subIn K (.ref C) (.type "BaseException") = some true
  tyC : typeIn K (.ref C) = some (.type "type")
  hdC : hasDictIn K C = true
  op : nsIn K cStatics "thirdparty.any" = some none
  sI : ks_superIn K C C "__init__" = some (some (.builtin "ValueError.__init__"))
  sV : subIn K (.ref C) (.type "ValueError") = some true
  mC : mroIn K C (.ref C) = some true
  sup : mg "super" = none
  htop : (prog.main.scope.names.lookup ("super" : Str)).isSome = false
  names : namesOk fs = true
  len : fs.length ≤ 500
  fn : ∃ (oc : Value) (od : Option Addr) (kV doc pm : Value) (an : Option Addr) (cda : Addr) (ct : Value) (cc : Addr) (osl : Array (Option Value)) (ps : Pos) (fp : List (Str × Pos)) (t : Str) (q : SupP) (sp : List (Str × SetP)) (qual : Str)
      (ccl cl : Value) (cdd cld : Option Addr) (ccs csl : Array (Option Value)) (vs : Array Value) (file : Str) (tf : Tok),
    K.lookup fI = some ⟨oc, od, .func (ksFn "__init__" qual (exArgs ps fp) (exSup t q :: sp.map exSet) (exScope fs) .none kV doc pm an (.ref cda) ct cc), osl⟩ ∧ codeIn K (.ref cda) qual = true ∧ sp.map (·.1) = fs ∧ (q.q2.endLine == q.q4.line) = true ∧
      K.lookup cda = some ⟨ccl, cdd, .fields vs, ccs⟩ ∧ vs[2]? = some (.str file tf) ∧ ((prog.main.file : Str) == file) = true ∧ K.lookup cc = some ⟨cl, cld, .cell (some (.ref C)), csl⟩ ∧
      ∀ (s : Shared) (x : Value) (us : List Value), us.length = fs.length → BindsTo s (ksFn "__init__" qual (exArgs ps fp) (exSup t q :: sp.map exSet) (exScope fs) .none kV doc pm an (.ref cda) ct cc) ⟨x :: us, []⟩ (("self", x) :: fs.zip us)

theorem one_size (v : Value) : [v].length ≤ sizeLine := by
  rw [sizeLine_eq]
  exact (by decide : 1 ≤ 16777216)

section
variable {prog : Program} {w : World} {M : Model} {A : Around} {E : Value → Shared → Prop} {h : Heap} {g : Array GenState} {d : Drawn} {t : Nat} {os : OsState} {K : Frag} {x C D u : Addr}

/-- super() in such a def -/
theorem sup_node {body : List Stmt} {q : Str} {scope : Scope} {p0 p1 : Pos} {attr : Str} {whole : Sem Value} {f cc cda L : Addr} {fd : FuncData} {ar : Arg} {vs : Array Value} {file : Str} {tf : Tok} {oc ccl cl : Value} {od cdd cld : Option Addr} {osl ccs csl : Array (Option Value)}
    {cdD : ClassData} {m mg mb : Str → Option Value} {ox : Obj} {odx : Option Obj} {Q : Value → Shared → Prop}
    (X : K.In h) (hL : h.Ns L m) (hg : h.Ns mainGlobals mg) (hb : h.Ns builtinsNs mb) (hmb : mb "super" = some (.type "super"))
    (hf : K.lookup f = some ⟨oc, od, .func fd, osl⟩) (hp : (fd.params.posonlyargs ++ fd.params.args).head? = some ar) (hv : m ar.arg = some (.ref x)) (I : InstAt h x ox C odx)
    (hcode : K.lookup cda = some ⟨ccl, cdd, .fields vs, ccs⟩) (hvs : vs[2]? = some (.str file tf)) (hfile : ((prog.main.file : Str) == file) = true)
    (hcell : K.lookup cc = some ⟨cl, cld, .cell (some (.ref D)), csl⟩) (hD : clsIn K D = some cdD) (hsub : mroIn K C (.ref D) = some true) (hsuper : mg "super" = none)
    (hat : (attr == ("__class__" : Str)) = false) (hks : scope.names.lookup ("super" : Str) = some .globalImplicit) (hkc : scope.names.lookup ("__class__" : Str) = some .free) (hka : scope.names.lookup ar.arg = some .local) (hk : scope.kind = .function)
    (htop : (prog.main.scope.names.lookup ("super" : Str)).isSome = false)
    (hq : ∀ h', h'.get? h.objs.size = some (ks_superObj D x C) → (∀ b o, h.get? b = some o → h'.get? b = some o) → Q (.ref h.objs.size) ⟨h', g, d, t, os⟩) :
    _root_.PySem.wpAt (model prog w) A (.func body (ksEnv q scope L f (.ref cda) cc)) (attributeBase (.Call (.Name "super" p0) [] [] p1) attr (ksEnv q scope L f (.ref cda) cc) whole) Q E ⟨h, g, d, t, os⟩ := by
  obtain ⟨oD, hD1, hD2⟩ : ∃ oD, h.get? D = some oD ∧ oD.data = .cls cdD := by
    unfold clsIn at hD
    split at hD
    · rename_i c d cd' sl ho
      cases hD
      exact ⟨_, X _ _ ho, rfl⟩
    · cases hD
  refine ks_wpAt_super_base (env := ksEnv q scope L f (.ref cda) cc) hks hkc hat rfl (X _ _ hf) rfl hp rfl (X _ _ hcode) rfl hvs hfile htop ?_
  refine ks_loadName_global hk hks (loadGlobal_builtin (env := ksEnv q scope L f (.ref cda) cc) hg hsuper hb hmb ⟨rfl, ?_⟩)
  refine wpAny_loadName_free hk hkc rfl ⟨_, X _ _ hcell, rfl⟩ ?_
  refine wpAny_loadName_local hk hka hL hv ?_
  refine ks_wpAny_isType_cls hD1 hD2 ⟨rfl, ?_⟩
  refine ks_wpAny_call_super hD1 hD2 I.at_ I.cls (fun c e => ?_) (looks_mroIn X hsub) (fun h' e k => ?_)
  · have := I.no
    unfold notCls at this
    rw [e] at this
    exact Bool.noConfusion this
  · exact hq h' e k

/-- ValueError.__init__ bound to e, called -/
theorem call_mw {nm q : Str} {N : Addr} {bs bm : List Value} {hdct : Bool} {sn : List Str} {sub : List Value} {ab : Bool} {col : Option Bool} {dd : Option Addr} {k0 k1 k2 k3 k5 : Option Value} {e t0 : Addr} {rest : List Value} {Q : Value → Shared → Prop}
    (hC : h.get? C = some (excClassObj nm q C N bs bm hdct sn sub ab col dd k0 k1 k2 k3 k5 "ValueError.__new__")) (he : h.get? e = some (HandSPX.excO C t0)) (hu : h.get? u = some (kxs_mw "ValueError.__init__" e)) (hrest : rest.length ≤ sizeLine)
    (hq : ∀ h' t1, (∀ b o, b ≠ e → h.get? b = some o → h'.get? b = some o) → h'.get? e = some (HandSPX.excO C t1) → Q .none ⟨h', g, d, t, os⟩) :
    wpAny (model prog w) A (call (.ref u) rest) Q E ⟨h, g, d, t, os⟩ := by
  refine wpAny_call (codeAny_of_tree ?_)
  show wpAny _ A.in1 (callAny (.ref u) ⟨rest, []⟩) _ _ _
  simp only [callAny]
  refine wpAny_bind (wpAny_load hu ?_)
  simp only [kxs_mw, show (Value.type "method-wrapper" == Value.type "method" || Value.type "method-wrapper" == Value.type "builtin_function_or_method" || Value.type "method-wrapper" == Value.type "method-wrapper") = true by decide, if_true]
  refine W.KFB.if_so (by decide) ?_
  refine wpAny_bind (check_bound_init F.excBase_ValueError.toExcCallFacts hC he rfl ?_)
  refine wpAny_bind (wpAny_pure (wpAny_pure ?_))
  refine ⟨Code.quiet_builtin _ (by decide +kernel), codeAny_builtin F.excBase_ValueError.initEntry ?_⟩
  rw [Around.under_plainId F.excBase_ValueError.init.plain _]
  wp_walk
  refine hq _ h.objs.size (fun b o hb ho => ?_) ?_
  · rw [Heap.get?_update_other _ _ (Ne.symm hb)]
    exact Heap.get?_push_of_some _ ho
  · rw [Heap.get?_update_self _ (Heap.get?_push_of_some _ he) rfl]
    rfl
theorem callWith_mw {s : Shared} {pos : Pos} {first : List Value} {env : Env} {e : Expr} {rest : List Expr} {Q : Value → Shared → Prop}
    (h : wpAny M A (spliced (backTo pos (starEach (e :: rest) env))) (fun vs s₁ => s₁.heap.get? u = some (kxs_mw "ValueError.__init__" x) ∧ wpAny M A (call (.ref u) (first ++ vs)) Q E s₁) E s)
    (he : starEach (e :: rest) env = (false, eval e env) :: starEach rest env := by rfl) (hplain : (backTo pos (starEach rest env)).any (·.1) = false := by rfl) :
    wpAny M A (callWith pos (.ref u) first (backTo pos (starEach (e :: rest) env)) []) Q E s := by
  rw [he] at h ⊢
  refine kxs_callWith (i := "ValueError.__init__") (x := x) (by show (false || (backTo pos (starEach rest env)).any (·.1)) = false; rw [hplain]; rfl) ?_
  exact evalArgs_plain h
/-- a method of something, called with one written constant, in a known activation -/
theorem at_meth {c : Code} {s : Shared} {env : Env} {o : Expr} {name : Str} {apos pos p3 : Pos} {k : Const} {j : Nat} {Q : Value → Shared → Prop} (hline : (apos.endLine == pos.line) = true)
    (h : ∀ pl, _root_.PySem.wpAt M A c (attributeBase o name env (eval o env)) (fun ov s₁ => wpAny M A (getMethod ov name pl) (fun fx s₂ => wpAny M A (callWith pos fx.1 fx.2 (backTo pos (starEach [.Constant k j p3] env)) []) Q E s₂) E s₁) E s) :
    _root_.PySem.wpAt M A c (eval (.Call (.Attribute o name apos) [.Constant k j p3] [] pos) env) Q E s := by
  rw [arm_eval_Call]
  refine wpAt_bind (_root_.PySem.wpAt_mono (h (do return (← importBound o env).getD true)) (fun ov s₁ h₁ => wpAt_of_wpAny (wpAny_bind (wpAny_standAt ?_))) fun _ _ y => y)
  have hform : methodCallForm (([.Constant k j p3] : List Expr).length + ([] : List Keyword).length) (backTo pos (starEach [.Constant k j p3] env)) (backToKw pos (keywordEach [] env)) = true := rfl
  have hpos : methodCallPos true o env apos pos = pure pos := by unfold methodCallPos; simp [hline]
  unfold methodCall calleeOf
  rw [hform]
  simp only [if_true]
  exact wpAny_bind (wpAny_holding (wpAny_mono h₁ (fun fx s₂ h₂ => wpAny_bind (wpAny_of_eq hpos h₂)) fun _ _ y => y))
end
end RingX
end PySem

namespace PySem
namespace RingX
open PySem.W PySem.Calls PyProof.Rows PySem.HandSPX

/-- the fields' map behind the stores of fs, in their order -/
def fmap : List Str → List Value → (Str → Option Value) → Str → Option Value
  | f :: fs, v :: vs, m => fmap fs vs (fun y => if y = f then some v else m y)
  | _, _, m => m

abbrev excD (C t : Addr) (od : Option Addr) : Obj := { cls := .ref C, dict := od, data := .fields #[.ref t, .none, .none, .none, .bool false, .none] }

section
variable {prog : Program} {w : World} {A : Around} {E : Value → Shared → Prop} {R : Result → Shared → Prop} {K : Frag} {mg mb : Str → Option Value} {C fI L x t0 : Addr}

theorem exc_ld {M : Model} {s : Shared} {name : Str} {scope : Scope} {a cc : Addr} {cd : Value} {m : Str → Option Value} {y : Str} {pos : Pos} {v : Value} {Q : Value → Shared → Prop} (hn : s.heap.Ns L m) (hv : m y = some v) (h : Q v s)
    (hk : scope.kind = .function) (hl : scope.names.lookup y = some .local) (hd : (y == ("__debug__" : Str)) = false) : wpAny M A (eval (.Name y pos) (ksEnv name scope L a cd cc)) Q E s :=
  wpAny_Name (wpAny_loadName_local (env := ksEnv name scope L a cd cc) hk hl hn hv h) hd

/-- what is asked of a class whose instances get fields -/
structure SetC (K : Frag) (C : Addr) : Prop where
  sa : findIn K (.ref C) "__setattr__" = some (some (.builtin "object.__setattr__"))
  cl : ∃ cd, clsIn K C = some cd ∧ refsVE cd.mro = true ∧ cd.hasDict = true

/-- self.f = f, for the fields behind the first -/
theorem sets_on (T : SetC K C) {q : Str} {sc : Scope} {a cc dx : Addr} {cd : Value} {m : Str → Option Value} {Q : Flow → Shared → Prop} (hk : sc.kind = .function) (hself : sc.names.lookup ("self" : Str) = some .local) (hmx : m "self" = some (Value.ref x)) :
    ∀ (sp : List (Str × SetP)) (us : List Value) (m0 : Str → Option Value) (nl : List Str) (s : Shared), us.length = sp.length → nl.length + sp.length ≤ 900 →
      (∀ f ∈ sp, sc.names.lookup f.1 = some .local ∧ (f.1 == ("__debug__" : Str)) = false ∧ findIn K (.ref C) f.1 = some none) → (∀ p ∈ (sp.map (·.1)).zip us, m p.1 = some p.2) →
      K.In s.heap → s.heap.Ns L m → L ≠ dx → s.heap.get? x = some (excD C t0 (some dx)) → x ≠ dx → s.heap.Ns1 dx m0 → Within m0 nl →
      (∀ h' tk, (∀ b o, b ≠ dx → s.heap.get? b = some o → h'.get? b = some o) → h'.Ns1 dx (fmap (sp.map (·.1)) us m0) → Q .next { s with heap := h', toks := tk }) →
      (∀ b o, K.lookup b = some o → b ≠ dx) →
      wpAny (model prog w) A (execs (sp.map exSet) (ksEnv q sc L a cd cc)) Q E s := by
  intro sp
  induction sp with
  | nil =>
    intro us m0 nl s hl _ _ _ X hL hLd hx hxd hd hw hq _
    cases us with
    | cons _ _ => cases hl
    | nil =>
      refine wpAny_execs_nil ?_
      obtain ⟨h, g, d, t, os⟩ := s
      exact hq h t (fun _ _ _ e => e) hd
  | cons f sp ih =>
    intro us m0 nl s hl hz hf hm X hL hLd hx hxd hd hw hq hKd
    cases us with
    | nil => cases hl
    | cons v us =>
      obtain ⟨cl, hcl, hmro, hdict⟩ := T.cl
      obtain ⟨hloc, hdbg, hno⟩ := hf f List.mem_cons_self
      obtain ⟨oD, _, _, hoD, _, _⟩ := hd.count hw
      rw [List.map_cons]
      refine wpAny_execs_cons (plainObj_wpAny_Assign_Attribute ?_)
      refine exc_ld (L := L) hL (hm (f.1, v) List.mem_cons_self) (exc_ld (L := L) hL hmx ?_ hk hself (by decide)) hk hloc hdbg
      refine set_plain X (ox := excD C t0 (some dx)) (od := some oD) ⟨hx, rfl, rfl, hoD⟩ T.sa ?_
      obtain ⟨h, g, d, t, os⟩ := s
      refine PySem.OEX.osa_old X hx hd hw (by have := hz; simp only [List.length_cons] at this; omega) hcl hmro hdict hno (fun h' tk' k hn => ?_)
      refine ih us _ (f.1 :: nl) ⟨h', g, d, tk', os⟩ (by simpa using hl) (by have := hz; simp only [List.length_cons] at this ⊢; omega) (fun y hy => hf y (List.mem_cons_of_mem _ hy)) (fun p hp => hm p (List.mem_cons_of_mem _ hp))
        (fun b o e => k b o (hKd b o e) (X b o e)) ?_ hLd (k _ _ hxd hx) hxd hn (Within.cons f.1 v hw) (fun h'' tk'' k2 hn2 => hq h'' tk'' (fun b o hb e => k2 b o hb (k b o hb e)) hn2) hKd
      obtain ⟨oL, es, ep, hoL, r⟩ := hL
      exact ⟨oL, es, ep, k _ _ hLd hoL, r⟩

theorem lookup_mem {α : Type} : ∀ {l : List (Str × α)} {p : Str × α}, (l.map (·.1)).Nodup → p ∈ l → l.lookup p.1 = some p.2
  | [], _, _, h => nomatch h
  | q :: l, p, hn, h => by
    obtain ⟨n1, n2⟩ := List.nodup_cons.mp (show (q.1 :: l.map (·.1)).Nodup from hn)
    rcases List.mem_cons.mp h with e | e
    · subst e
      rw [show p :: l = (p.1, p.2) :: l from rfl, List.lookup_cons, beq_self_eq_true]
    · have ne : (p.1 == q.1) = false := by
        refine beq_eq_false_iff_ne.mpr fun z => n1 ?_
        rw [← z]
        exact List.mem_map_of_mem e
      rw [show q :: l = (q.1, q.2) :: l from rfl, List.lookup_cons, ne]
      exact lookup_mem n2 e
theorem zip_fst {α β : Type} : ∀ {l : List α} {r : List β}, r.length = l.length → (l.zip r).map (·.1) = l
  | [], _, _ => rfl
  | _ :: _, [], h => nomatch h
  | a :: l, b :: r, h => by
    show a :: (l.zip r).map (·.1) = a :: l
    rw [zip_fst (by simpa using h)]

/-- what __init__ leaves of a fresh exception at x -/
structure InitEnd (h h' : Heap) (x C : Addr) (od : Option Addr) (fs : List Str) (us : List Value) : Prop where
  keep : ∀ b o, b ≠ x → h.get? b = some o → h'.get? b = some o
  obj : ∃ t1, h'.get? x = some (excD C t1 od)
  dict : (fs = [] ∧ od = none) ∨ fs ≠ [] ∧ ∃ dx, od = some dx ∧ h.objs.size ≤ dx ∧ dx ≠ x ∧ h'.Ns1 dx (fmap fs us fun _ => none)

theorem ex_init {nm : Str} {fs : List Str} {s : Shared} {us : List Value} (T : ExTxt prog K mg C fI nm fs) (X : K.In s.heap) (hlim : s.heap.NoLimit) (G : s.heap.Ns mainGlobals mg) (hB : s.heap.Ns builtinsNs mb) (hmb : ∀ y : Str, y ≠ "__name__" → mb y = bootBuiltins y)
    (hx : s.heap.get? x = some (excO C t0)) (hnx : K.lookup x = none) (hroom : A.depth < recursionLimit) (hl : us.length = fs.length)
    (hq : ∀ h' tk od, InitEnd s.heap h' x C od fs us → R (.ok (.ret .none)) { s with heap := h', toks := tk }) :
    codeAny (model prog w) A (.call (.ref fI) ⟨.ref x :: us, []⟩) R s := by
  obtain ⟨oc, od, kV, doc, pm, an, cda, ct, cc, osl, ps, fp, txt, q, sp, qual, ccl, cl, cdd, cld, ccs, csl, vs, file, tf, ho, hcd, hsp, hline, hcode, hvs, hfile, hcell, hbind⟩ := T.fn
  obtain ⟨cn, cq, N, bs, bm, sn, sub, ab, col, dd, k0, k1, k2, k3, k5, hC, hbm⟩ := T.cls
  have hcl : clsIn K C = some { name := cn, bases := bs, mro := .ref C :: bm, ns := N, qualname := cq, hasDict := true, slotNames := sn, subclasses := sub, abstract := ab, collection := col, hasDel := false } := by unfold clsIn; rw [hC] <;> rfl
  have hnames := T.names
  unfold namesOk at hnames
  simp only [Bool.and_eq_true, beq_iff_eq, List.all_eq_true, Bool.not_eq_true', decide_eq_true_eq] at hnames
  obtain ⟨⟨⟨⟨nS, nC⟩, nX⟩, nD⟩, nF⟩ := hnames
  have hlocF : ∀ y ∈ (("self" : Str), Value.ref x) :: fs.zip us, (exScope fs).names.lookup y.1 = some .local := by
    intro y hy
    rcases List.mem_cons.mp hy with e | e
    · rw [e]; exact nX
    · exact (nF y.1 (List.of_mem_zip e).1).1.1
  have hcellF : ∀ y ∈ (exScope fs).names, y.2 ≠ .cell := by
    intro y hy
    unfold exScope at hy
    simp only [List.mem_cons, List.mem_append, List.mem_map, List.not_mem_nil, or_false] at hy
    rcases hy with e | ⟨f, _, e⟩ | e | e <;> (subst e; intro z; cases z)
  refine ks_codeAny_call_defAt (fd := ksFn "__init__" qual (exArgs ps fp) (exSup txt q :: sp.map exSet) (exScope fs) .none kV doc pm an (.ref cda) ct cc) (body := exSup txt q :: sp.map exSet) (binds := ("self", .ref x) :: fs.zip us)
    hroom (X _ _ ho) rfl hlim (codeRec_of X hcd) rfl (hbind s (.ref x) us hl) hcellF hlocF (fun h₁ hns hk₁ => ?_) rfl rfl rfl
  have hxs := Heap.lt_size hx
  have X₁ : K.In h₁ := X.keeps hk₁
  have hx₁ := hk₁ _ _ hx
  have nsk : ∀ {b : Addr} {m : Str → Option Value}, s.heap.Ns b m → h₁.Ns b m := fun {b m} ⟨o, es, ep, e, r⟩ => ⟨o, es, ep, hk₁ _ _ e, r⟩
  have hall : ∀ p ∈ (("self" : Str), Value.ref x) :: fs.zip us, (fun y => ((("self" : Str), Value.ref x) :: fs.zip us).reverse.lookup y) p.1 = some p.2 := fun p hp => by
    refine lookup_mem ?_ (List.mem_reverse.mpr hp)
    rw [List.map_reverse]
    refine List.pairwise_reverse.mpr (List.Pairwise.imp (fun z => Ne.symm z) ?_)
    rw [List.map_cons, zip_fst hl]
    refine List.nodup_cons.mpr ⟨fun z => ?_, nD⟩
    have := (nF _ z).2
    simp at this
  have hmself : (fun y => ((("self" : Str), Value.ref x) :: fs.zip us).reverse.lookup y) ("self" : Str) = some (Value.ref x) := hall (("self" : Str), Value.ref x) List.mem_cons_self
  have hmf : ∀ p ∈ fs.zip us, (fun y => ((("self" : Str), Value.ref x) :: fs.zip us).reverse.lookup y) p.1 = some p.2 := fun p hp => hall p (List.mem_cons_of_mem _ hp)
  have I₁ : InstAt h₁ x (excO C t0) C none := ⟨hx₁, rfl, rfl, trivial⟩
  have hLx : s.heap.objs.size ≠ x := Nat.ne_of_gt hxs
  refine ks_wpAt_execs_cons ?_
  show _root_.PySem.wpAt _ _ _ (exec (exSup txt q) _) _ _ _
  unfold exSup
  refine ks_wpAt_Expr_any (at_meth hline fun pl => ?_)
  refine sup_node (C := C) (x := x) (m := fun y => ((("self" : Str), Value.ref x) :: fs.zip us).reverse.lookup y) X₁ hns (nsk G) (nsk hB) ((hmb _ (by decide)).trans (by first | rfl | kernel_rfl)) ho rfl hmself I₁ hcode hvs hfile hcell hcl T.mC T.sup (by decide) nS nC nX rfl T.htop (fun h₂ e₂ k₂ => ?_)
  have X₂ : K.In h₂ := X₁.keeps k₂
  have I₂ : InstAt h₂ x (excO C t0) C none := ⟨k₂ _ _ hx₁, rfl, rfl, trivial⟩
  have hsI := T.sI
  unfold ks_superIn at hsI
  rw [hcl, Option.bind_some] at hsI
  refine kxs_getMethod kxs_ValueError e₂ (looks_opaque X₂ T.op) (l₀ := .ref C :: bm) (fun A Q E s k q => wpAny_bind ((looks_clsIn X₂ hcl) A _ E s k (wpAny_pure q))) rfl X₂ hsI (I₂.type.andThen (looks_subIn X₂ T.sV)) (ks_ne X₂ I₂ hcl) (by decide) ?_
  dsimp only
  have k₃ : ∀ b o, h₂.get? b = some o → (h₂.push (kxs_mw "ValueError.__init__" x)).get? b = some o := fun b o e => Heap.get?_push_of_some _ e
  refine callWith_mw (x := x) ?_
  show wpAny _ _ (spliced [(false, eval (.Constant (.str txt) 0 q.q3) _)]) _ _ _
  refine spliced_cons (Calls.Constant_str (spliced_nil ⟨Heap.get?_push_at rfl rfl, ?_⟩))
  refine call_mw (k₃ _ _ (X₂ _ _ hC)) (k₃ _ _ (k₂ _ _ hx₁)) (Heap.get?_push_at rfl rfl) (one_size _) (fun h₄ t1 k₄ hx₄ => ?_)
  -- the fields
  have kk : ∀ b o, b ≠ x → h₁.get? b = some o → h₄.get? b = some o := fun b o hb e => k₄ b o hb (k₃ _ _ (k₂ _ _ e))
  have X₄ : K.In h₄ := fun b o e => kk b o (fun z => by rw [z, hnx] at e; cases e) (X₁ b o e)
  have hns₄ : h₄.Ns s.heap.objs.size (fun y => ((("self" : Str), Value.ref x) :: fs.zip us).reverse.lookup y) := by
    obtain ⟨oL, es, ep, hoL, r⟩ := hns
    exact ⟨oL, es, ep, kk _ _ hLx hoL, r⟩
  have old : ∀ b o, b ≠ x → s.heap.get? b = some o → h₄.get? b = some o := fun b o hb e => kk b o hb (hk₁ b o e)
  refine wpAt_of_wpAny ?_
  have SC : SetC K C := ⟨T.sa, _, hcl, hbm, rfl⟩
  cases sp with
  | nil =>
    refine wpAny_execs_nil (hq h₄ _ none ⟨old, ⟨t1, hx₄⟩, .inl ⟨hsp.symm, rfl⟩⟩)
  | cons f sp =>
    subst hsp
    cases us with
    | nil => cases hl
    | cons v us =>
      obtain ⟨hloc, hdbg⟩ := (nF f.1 (by simp)).1
      rw [List.map_cons]
      refine wpAny_execs_cons (plainObj_wpAny_Assign_Attribute ?_)
      refine exc_ld hns₄ (hmf (f.1, v) (by simp)) (exc_ld hns₄ hmself ?_ rfl nX (by decide)) rfl hloc hdbg
      refine set_plain X₄ (ox := excO C t1) (od := none) ⟨hx₄, rfl, rfl, trivial⟩ T.sa ?_
      refine exc_osa X₄ hx₄ hcl (show refsVE (.ref C :: bm) = true from hbm) rfl (T.noN f.1 (by simp)) (fun h₅ tk₅ dx k₅ dn dne hx₅ hn₅ => ?_)
      have hsz : s.heap.objs.size < h₄.objs.size := hns₄.lt
      refine sets_on SC (x := x) (t0 := t1) (dx := dx) (m := fun y => ((("self" : Str), Value.ref x) :: ((f :: sp).map (·.1)).zip (v :: us)).reverse.lookup y) rfl nX hmself sp us _ [f.1] ⟨h₅, _, _, tk₅, _⟩ (by simpa using hl) (by have := T.len; simp only [List.length_cons, List.length_map, List.length_nil] at this ⊢; omega)
        (fun y hy => ⟨(nF y.1 (by simp; exact .inr ⟨_, hy⟩)).1.1, (nF y.1 (by simp; exact .inr ⟨_, hy⟩)).1.2, T.noN y.1 (by simp; exact .inr ⟨_, hy⟩)⟩) (fun p hp => hmf p (by simp only [List.map_cons, List.zip_cons_cons]; exact List.mem_cons_of_mem _ hp))
        (fun b o e => k₅ b o (fun z => by rw [z, hnx] at e; cases e) (X₄ b o e)) ?_ (fun z => ?_) hx₅ (Ne.symm dne) hn₅ (Within.cons f.1 v Within.nil) (fun h₆ tk₆ k₆ hn₆ => ?_) (fun b o e => ?_)
      · obtain ⟨oL, es, ep, hoL, r⟩ := hns₄
        exact ⟨oL, es, ep, k₅ _ _ hLx hoL, r⟩
      · have dn' : h₄.objs.size ≤ dx := dn
        have z' : s.heap.objs.size = dx := z
        omega
      · have dn' : h₄.objs.size ≤ dx := dn
        refine hq h₆ tk₆ (some dx) ⟨fun b o hb e => k₆ b o ?_ (k₅ b o hb (old b o hb e)), ⟨t1, k₆ x _ (Ne.symm dne) hx₅⟩, .inr ⟨by simp, dx, rfl, by omega, dne, hn₆⟩⟩
        have hb1 : b < s.heap.objs.size := Heap.lt_size e
        exact Nat.ne_of_lt (Nat.lt_of_lt_of_le (Nat.lt_trans hb1 hsz) dn')
      · exact Nat.ne_of_lt (Nat.lt_of_lt_of_le (Heap.lt_size (X₄ b o e)) dn)

/-- a made exception -/
structure OwnMade (h h' : Heap) (e C : Addr) (od : Option Addr) (fs : List Str) (us : List Value) : Prop where
  keep : ∀ b o, h.get? b = some o → h'.get? b = some o
  new : h.objs.size ≤ e
  obj : ∃ t1, h'.get? e = some (excD C t1 od)
  dict : (fs = [] ∧ od = none) ∨ fs ≠ [] ∧ ∃ dx, od = some dx ∧ h.objs.size ≤ dx ∧ dx ≠ e ∧ h'.Ns1 dx (fmap fs us fun _ => none)

theorem ex_made {nm : Str} {fs : List Str} {s : Shared} {us : List Value} (T : ExTxt prog K mg C fI nm fs) (X : K.In s.heap) (hlim : s.heap.NoLimit) (G : s.heap.Ns mainGlobals mg) (hB : s.heap.Ns builtinsNs mb) (hmb : ∀ y : Str, y ≠ "__name__" → mb y = bootBuiltins y)
    (hroom : A.depth + 1 < recursionLimit) (hl : us.length = fs.length)
    (hq : ∀ h' tk e od, OwnMade s.heap h' e C od fs us → R (.ok (.ret (.ref e))) { s with heap := h', toks := tk }) :
    codeAny (model prog w) A (.call (.ref C) ⟨us, []⟩) R s := by
  obtain ⟨cn, cq, N, bs, bm, sn, sub, ab, col, dd, k0, k1, k2, k3, k5, hC, hbm⟩ := T.cls
  obtain ⟨hp, g, dr, tk, os⟩ := s
  have k : ∀ b o, hp.get? b = some o → ((hp.push (kdv_tup us)).push (excO C hp.objs.size)).get? b = some o := fun b o e => Heap.get?_push_of_some _ (Heap.get?_push_of_some _ e)
  have hget : ((hp.push (kdv_tup us)).push (excO C hp.objs.size)).get? (hp.objs.size + 1) = some (excO C hp.objs.size) := by heap_get
  have nsk : ∀ {b : Addr} {m : Str → Option Value}, hp.Ns b m → ((hp.push (kdv_tup us)).push (excO C hp.objs.size)).Ns b m := fun {b m} ⟨o, es, ep, e, r⟩ => ⟨o, es, ep, k _ _ e, r⟩
  have hnx : K.lookup (hp.objs.size + 1) = none := by
    cases e : K.lookup (hp.objs.size + 1) with
    | none => rfl
    | some o =>
      have z : hp.get? (hp.objs.size + 1) = some o := X _ _ e
      exact absurd (Nat.lt_of_succ_lt (Heap.lt_size z)) (Nat.lt_irrefl _)
  have hus : us.length ≤ sizeLine := by
    have := T.len
    rw [sizeLine_eq]
    omega
  refine call_own F.excBase_ValueError (fun X => refsVE_contains X bm hbm) (X _ _ hC) (looks_findIn X T.iC) (fun self => bind_fn X self T.tC) hus ?_
  refine ex_init (s := ⟨(hp.push (kdv_tup us)).push (excO C hp.objs.size), g, dr, tk, os⟩) T (X.keeps k) (hlim.keeps k) (nsk G) (nsk hB) hmb hget hnx ?_ hl fun h' tk' od I => ?_
  · show A.depth + 1 < recursionLimit
    exact hroom
  · have old : ∀ b o, hp.get? b = some o → h'.get? b = some o := fun b o e => I.keep b o (Nat.ne_of_lt (Nat.lt_succ_of_lt (Heap.lt_size e))) (k b o e)
    refine ⟨rfl, hq h' tk' (hp.objs.size + 1) od ⟨old, Nat.le_succ _, I.obj, ?_⟩⟩
    rcases I.dict with z | ⟨e0, dx, e1, e2, e3, e4⟩
    · exact .inl z
    · have z : hp.objs.size + 1 + 1 ≤ dx := by
        have q := e2
        rw [Heap.size_push, Heap.size_push] at q
        exact q
      exact .inr ⟨e0, dx, e1, Nat.le_trans (Nat.le_trans (Nat.le_succ _) (Nat.le_succ _)) z, e3, e4⟩
end
end RingX
end PySem

namespace L2
open PySem PySem.Spec PyProof.Rows PySem.RingX

/-! ### the fields of an exception -/
def xdl (fs : List Str) (vs : List V) : List (Str × V) := (fs.zip vs).reverse
theorem relO_fmap : ∀ (fs : List Str) (vs : List V) (us : List Value) (l0 : List (Str × V)) (m0 : Str → Option Value), vs.length = fs.length → Vals vs us → (∀ f, RelO (l0.lookup f) (m0 f)) → ∀ f, RelO (((fs.zip vs).reverse ++ l0).lookup f) (fmap fs us m0 f) := by
  intro fs
  induction fs with
  | nil =>
    intro vs us l0 m0 hl r h f
    cases r with
    | nil => exact h f
    | cons _ _ => cases hl
  | cons g fs ih =>
    intro vs us l0 m0 hl r h f
    cases r with
    | nil => cases hl
    | @cons v u vs us rv r =>
      have e : ((g :: fs).zip (v :: vs)).reverse ++ l0 = (fs.zip vs).reverse ++ ((g, v) :: l0) := by simp
      rw [e]
      exact ih vs us ((g, v) :: l0) _ (by simpa using hl) r (fun y => relO_put rv h y) f

section
variable {X : Cx} {C fI : Addr} {nm : Str} {fs : List Str}
/-- nm(a, ..), a class of exceptions with the fields fs -/
def tMkX (C : Addr) (fs : List Str) (ta : TA) : St → Hp → XK → Prop := fun σ H Q => ta σ H fun vs H1 => vs.length = fs.length ∧ (fs = [] → Q (.ref C) none H1) ∧ (fs ≠ [] → ∀ d, H1 d = none → Q (.ref C) (some d) (upd H1 d (.xd (xdl fs vs))))
theorem mkx_core {pins : List (Addr × Obj)} {σ : St} {H1 : Hp} {s1 : Shared} {vs : List V} {us : List Value} {Q : XK} {k : Nat} (T : ExTxt X.prog X.K X.mg C fI nm fs) (hr : Room k X.A) (I1 : Inv X pins σ H1 s1) (r1 : Vals vs us)
    (hq : vs.length = fs.length ∧ (fs = [] → Q (.ref C) none H1) ∧ (fs ≠ [] → ∀ d, H1 d = none → Q (.ref C) (some d) (upd H1 d (.xd (xdl fs vs))))) : wpAny (model X.prog X.w) X.A (call (.ref C) us) (MkP X pins σ Q) X.xe s1 := by
  obtain ⟨hl, q0, qd⟩ := hq
  have hlim := I1.nolimit
  obtain ⟨mb, hmb1, hmb2⟩ := I1.ok.mod.blt
  have hG := I1.ok.mod.glob.keeps I1.bk
  have hB := hmb1.keeps I1.bk
  have hlu : us.length = fs.length := by rw [← r1.length]; exact hl
  obtain ⟨hp, g, dr, tk, os⟩ := s1
  refine wpAny_call (ex_made T I1.kIn hlim hG hB hmb2 (by have := hr.dp; omega) hlu fun h' tk' e od M => ?_)
  show MkP X pins σ Q (.ref e) ⟨h', g, dr, tk', os⟩
  obtain ⟨t1, hoe⟩ := M.obj
  obtain ⟨G', g1, g2⟩ := restrict h' fun b => decide (b ≠ e)
  have gk : ∀ b, b ≠ e → G'.get? b = h'.get? b := fun b hb => g1 b (decide_eq_true hb)
  have ge : G'.get? e = none := g2 e (by simp)
  have old : ∀ b o, hp.get? b = some o → G'.get? b = some o := fun b o q => (gk b (Nat.ne_of_lt (Nat.lt_of_lt_of_le (Heap.lt_size q) M.new))).trans (M.keep b o q)
  have back : ∀ b o, G'.get? b = some o → h'.get? b = some o := fun b o q => by
    by_cases hb : b = e
    · rw [hb, ge] at q; cases q
    · exact (gk b hb).symm.trans q
  rcases M.dict with ⟨e1, e2⟩ | ⟨hfs, dx, e1, hdx, hne, hns⟩
  · subst e2
    have J : Inv X pins σ H1 ⟨G', g, dr, tk', os⟩ := I1.kept (t' := tk') old
    exact ⟨e, _, _, ⟨G', g, dr, tk', os⟩, _, .ref C, none, rfl, J, back, ge, hoe, ⟨rfl, rfl⟩, rfl, rfl, I1.hok.fresh M.new, rfl, I1.bare, raises_own T.exC T.tyC, q0 e1⟩
  · subst e1
    have rel : ∀ f, RelO ((xdl fs vs).lookup f) (fmap fs us (fun _ => none) f) := fun f => by
        have z := relO_fmap fs vs us [] (fun _ => none) hl r1 (fun _ => trivial) f
        rw [List.append_nil] at z
        exact z
    have ob : ObjOk X.prog X.w (upd H1 dx (.xd (xdl fs vs))) G' dx (.xd (xdl fs vs)) :=
        ⟨_, hns.at (fun o q => (gk dx hne).trans q), rel⟩
    have J : Inv X pins σ (upd H1 dx (.xd (xdl fs vs))) ⟨G', g, dr, tk', os⟩ := I1.laid (t' := tk') old hdx ob
    refine ⟨e, _, _, ⟨G', g, dr, tk', os⟩, _, .ref C, some dx, rfl, J, back, ge, hoe, ⟨rfl, rfl⟩, rfl, rfl, ?_, rfl, I1.bare, raises_own T.exC T.tyC, qd hfs dx (I1.hok.fresh hdx)⟩
    rw [upd_ne (Ne.symm hne)]
    exact I1.hok.fresh M.new
theorem pmk_ex {a : Expr} {as : List Expr} {ta : TA} {p pos : Pos} {k : Nat} (T : ExTxt X.prog X.K X.mg C fI nm fs) (hr : Room k X.A) (ha : PA X (a :: as) ta) (hg : Gl X nm := by rfl) (hdb : (nm == ("__debug__" : Str)) = false := by decide)
    (he : starEach (a :: as) X.env = (false, eval a X.env) :: starEach as X.env := by rfl) (hpl : (backTo pos (starEach as X.env)).any (·.1) = false := by rfl) :
    PMk X (.Call (.Name nm p) (a :: as) [] pos) (tMkX C fs ta) := by
  intro pins s σ H Q I h
  refine wpAny_Call_Name_kw (ld_glob I hg T.gC ?_ hdb)
  refine PySem.W.callWith_K (h₀ := X.base) I.ok.mod.kin T.kC (thn (ha.run pos pins s σ H _ I h) fun us s1 hh => ?_) he hpl
  obtain ⟨vs, H1, I1, r1, q1⟩ := hh
  exact ⟨I1.kIn, mkx_core T hr I1 r1 q1⟩
theorem pmk_ex0 {p pos : Pos} {k : Nat} (T : ExTxt X.prog X.K X.mg C fI nm fs) (hr : Room k X.A) (hg : Gl X nm := by rfl) (hdb : (nm == ("__debug__" : Str)) = false := by decide) :
    PMk X (.Call (.Name nm p) [] [] pos) (tMkX C fs tNil) := by
  intro pins s σ H Q I h
  refine wpAny_Call_Name_kw (ld_glob I hg T.gC ?_ hdb)
  exact PySem.W.callWith_K0 I.kIn T.kC (mkx_core (us := []) T hr I .nil h)
/-- raise nm(a, ..) -/
def tRaiseX (C : Addr) (fs : List Str) (W : WX) (ta : TA) : TS := fun _ σ H => tMkX C fs ta σ H fun cls d H' => W cls d σ H'
theorem ps_raiseX {a : Expr} {as : List Expr} {ta : TA} {W : WX} {p pos pos2 : Pos} {k : Nat} (hc : X.calm = true) (T : ExTxt X.prog X.K X.mg C fI nm fs) (hr : Room k X.A) (tk : Takes X W) (ha : PA X (a :: as) ta) (hg : Gl X nm := by rfl) (hdb : (nm == ("__debug__" : Str)) = false := by decide)
    (he : starEach (a :: as) X.env = (false, eval a X.env) :: starEach as X.env := by rfl) (hpl : (backTo pos (starEach as X.env)).any (·.1) = false := by rfl) :
    PS X (.Raise (some (.Call (.Name nm p) (a :: as) [] pos)) none pos2) (tRaiseX C fs W ta) := ps_raise hc tk (pmk_ex T hr ha hg hdb he hpl)
theorem ps_raiseX0 {W : WX} {p pos pos2 : Pos} {k : Nat} (hc : X.calm = true) (T : ExTxt X.prog X.K X.mg C fI nm fs) (hr : Room k X.A) (tk : Takes X W) (hg : Gl X nm := by rfl) (hdb : (nm == ("__debug__" : Str)) = false := by decide) :
    PS X (.Raise (some (.Call (.Name nm p) [] [] pos)) none pos2) (tRaiseX C fs W tNil) := ps_raise hc tk (pmk_ex0 T hr hg hdb)
end

/-! ### several clauses, with and without names -/
/-- behind a suite with a name (slot i): the slot is empty -/
def gone (i : Nat) (D : Ends) : Ends := { nx := fun σ H => D.nx (σ.set i none) H, rt := D.rt, bk := fun σ H => D.bk (σ.set i none) H, ct := fun σ H => D.ct (σ.set i none) H }
/-- a clause: its class, its name's slot, its suite's reading -/
structure Clause where
  c : Value
  i : Option Nat
  ts : Addr → Value → Option Addr → TS
def wCl (K : PySem.W.Frag) (Wout : WX) (D : Ends) : List Clause → WX
  | [] => Wout
  | q :: r => fun cls d σ H => ∃ b, PySem.W.exmOne K cls q.c = some b ∧ (b = true → ∀ a, H a = none → match q.i with | none => q.ts a cls d D σ H | some i => q.ts a cls d (gone i D) (σ.set i (some (.ref a))) H) ∧ (b = false → wCl K Wout D r cls d σ H)
inductive ClsOk (X : Cx) : List ExceptHandler → List Clause → Prop
  | nil : ClsOk X [] []
  | plain {x : Str} {c : Value} {ts : Addr → Value → Option Addr → TS} {b₀ : Stmt} {suite : List Stmt} {np pos' : Pos} {hds : List ExceptHandler} {l : List Clause} (hc : Names X x c)
      (hsu : ∀ (a : Addr) (oe : Obj) (cls : Value) (d : Option Addr) (pn : List (Addr × Obj)), Zc cls d oe → (∃ vs, oe.data = .fields vs) → X.base.get? a = none → PSs (X.suite a ((a, oe) :: pn)) (b₀ :: suite) (ts a cls d)) (r : ClsOk X hds l) :
      ClsOk X (.ExceptHandler (some (.Name x np)) none (b₀ :: suite) pos' :: hds) (⟨c, none, ts⟩ :: l)
  | named {x n : Str} {c : Value} {i : Nat} {ts : Addr → Value → Option Addr → TS} {b₀ : Stmt} {suite : List Stmt} {np pos' : Pos} {hds : List ExceptHandler} {l : List Clause} (hi : X.N[i]? = some n) (hln : X.env.kindOf n = some .local) (hc : Names X x c)
      (hsu : ∀ (a : Addr) (oe : Obj) (cls : Value) (d : Option Addr) (pn : List (Addr × Obj)), Zc cls d oe → (∃ vs, oe.data = .fields vs) → X.base.get? a = none → PSs (X.suite a ((a, oe) :: pn)) (b₀ :: suite) (ts a cls d)) (r : ClsOk X hds l) :
      ClsOk X (.ExceptHandler (some (.Name x np)) (some n) (b₀ :: suite) pos' :: hds) (⟨c, some i, ts⟩ :: l)
section
variable {X : Cx} {body : List Stmt} {h₀ : ExceptHandler} {hds : List ExceptHandler} {l : List Clause} {pos : Pos} {tb : WX → TS} {Wout : WX}
theorem SP.ofTry {pins : List (Addr × Obj)} {xe : Value → Shared → Prop} {D : Ends} (ok : X.Ok) {f : Flow} {s1 : Shared} (h : SP (X.tr (X.pn ++ pins) xe) [] D f s1) : SP X pins D f s1 := by
  cases f with
  | next => obtain ⟨σ', H', J', q⟩ := h; exact ⟨σ', H', J'.ofTry ok, q⟩
  | brk => obtain ⟨σ', H', J', q⟩ := h; exact ⟨σ', H', J'.ofTry ok, q⟩
  | cont => obtain ⟨σ', H', J', q⟩ := h; exact ⟨σ', H', J'.ofTry ok, q⟩
  | ret u => obtain ⟨v, σ', H', J', r, q⟩ := h; exact ⟨v, σ', H', J'.ofTry ok, r, q⟩
theorem ps_try_cl (hs : X.stack = X.env :: X.outer) (hf : X.env.frame = some X.env.locals) (hN : X.N.Nodup) (tk : Takes X Wout)
    (hb : ∀ (W : WX) (pn : List (Addr × Obj)) (xe : Value → Shared → Prop), Takes (X.tr pn xe) W → PassesOwn (model X.prog X.w) X.A X.env xe → PSs (X.tr pn xe) body (tb W))
    (hh : ClsOk X (h₀ :: hds) l) : PS X (.Try body (h₀ :: hds) [] [] pos) (fun D σ H => tb (wCl X.K Wout D l) D σ H) := by
  refine ⟨fun pins s σ H D I h => wpAny_Try_except ?_⟩
  have ok := I.ok
  have hfr : X.A.frames = some (X.env :: X.outer) := by rw [ok.frames, hs]
  refine wpAny_mono ((hb (wCl X.K Wout D l) (X.pn ++ pins) (fun e s₁ => wpAny (model X.prog X.w) X.A (noteFrame e X.env) (fun _ s₂ => wpAny (model X.prog X.w) X.A (setFlight e none) (fun _ s₃ =>
    wpAny (model X.prog X.w) X.A (handleBy e X.env (h₀ :: hds)) (SP X pins D) X.xe s₃) X.xe s₂) X.xe s₁) (fun u s' xx => ?_) PassesOwn.looking).run [] s σ H D (I.toTry _) h) (fun f s1 hsp => ?_) (fun e s1 he => he)
  · obtain ⟨a, B, sI, pins', σ', H', cls, d, rfl, J', nb, up, sky, na, os, ag, w⟩ := xx
    have J : Inv X pins σ' H' sI := J'.ofTry ok
    rw [hs] at sky
    refine Sky.land Zc.steady hfr hf sky fun h3 fl3 up3 => ?_
    have J3 : Inv X pins σ' H' { s' with heap := h3 } := J.landed nb fl3.1 (up.trans up3) os ag
    obtain ⟨oe3, vs3, he3, hz3, hd3⟩ := fl3.there
    have nfr : a ∉ frs (X.env :: X.outer) := fun hm => by
      obtain ⟨_, o', e', hnf⟩ := fl3.2.2.1.mem hm
      rw [he3] at e'; cases e'
      exact hnf _ hd3
    have nL : a ≠ X.env.locals := fun z => nfr (List.mem_filterMap.mpr ⟨X.env, List.mem_cons_self, by rw [hf, z]⟩)
    have nF : a ∉ X.fs := fun hm => by
      obtain ⟨e, he, q⟩ := List.mem_filterMap.mp hm
      exact nfr (List.mem_filterMap.mpr ⟨e, List.mem_cons_of_mem _ he, q⟩)
    have nbase : X.base.get? a = none := by
      cases q : X.base.get? a with
      | none => rfl
      | some o =>
        have z := nb a o (J.bs a o q).1 (by rw [hs]; exact nfr)
        rw [fl3.2.1] at z
        cases z
    have S3 := J3.suite he3 hd3 na nL nF
    have LT : PySem.W.Looks (model X.prog X.w) h3 (typeOf (.ref a)) cls := fun A Q E s k q => wpAny_typeOf_ref (k _ _ he3) (by rw [hz3.1]; exact q)
    have test : ∀ {x : Str} {c : Value} {np : Pos} {Q : Value → Shared → Prop} {E : Value → Shared → Prop}, Names X x c → Q c { s' with heap := h3 } → wpAny (model X.prog X.w) (X.A.mark (some (.ref a))) (eval (.Name x np) X.env) Q E { s' with heap := h3 } := fun {x c np Q E} hc q => by
      obtain ⟨hg, hdbg, hm | ⟨hm, hv, hnn⟩⟩ := hc
      · exact ld_glob (X := X.suite a ((a, oe3) :: (X.pn ++ pins))) S3 hg hm q hdbg
      · exact ld_blt (X := X.suite a ((a, oe3) :: (X.pn ++ pins))) S3 hg hm hv q hnn hdbg
    have go : ∀ {hds' : List ExceptHandler} {l' : List Clause}, ClsOk X hds' l' → wCl X.K Wout D l' cls d σ' H' →
        wpAny (model X.prog X.w) X.A (handleBy (.ref a) X.env hds') (SP X pins D) X.xe { s' with heap := h3 } := by
      intro hds' l' hk
      induction hk with
      | nil =>
        intro w
        refine wpAny_handleBy_nil ?_
        obtain ⟨k1, k2, k3, oe, vs, T, oT, ts', he, hz, hd, h1, hr⟩ := id fl3
        unfold PySem.passOn
        refine wpAny_bind (wpAny_field he hd h1 ?_)
        rw [if_neg (show ¬ ((Value.ref T == Value.none) = true) from by simp)]
        have fin : wpAny (model X.prog X.w) X.A (setFlight (.ref a) X.env.frame) (fun _ s4 => wpAny (model X.prog X.w) X.A (throw (.ref a) : Sem Flow) (SP X pins D) X.xe s4) X.xe { s' with heap := h3 } := by
          rw [hf]
          refine HandSPX.setFlight_upZ fl3 fun h4 hh4 up4 => wpAny_throw (tk _ _ ?_)
          exact ⟨a, B, sI, pins, σ', H', cls, d, rfl, J, nb, (up.trans up3).trans up4, .inr (.inr (by rw [hs]; exact hh4)), na, os, ag, w⟩
        first
          | exact wpAny_bind (wpAny_pure (wpAny_bind fin))
          | exact wpAny_bind fin
      | @plain x c ts b₀ suite np pos' hds2 l2 hc hsu r ih =>
        intro w
        obtain ⟨b, hb1, hyes, hno⟩ := w
        refine wpAny_handleBy_cons (codeAny_handlers_test (test hc ?_)) (by intro q; cases q)
        have LM := PySem.W.exm_one (M := model X.prog X.w) (J3.kIn) LT hb1
        refine LM.here ?_
        cases b with
        | false => exact ih (hno rfl)
        | true =>
          refine codeAny_handlers_suite (HandSPX.lands_againZ fl3 fun h4 fl4 up4 => ?_)
          have J4 : Inv X pins σ' H' { s' with heap := h4 } := J.landed nb fl4.1 ((up.trans up3).trans up4) os ag
          obtain ⟨oe4, vs4, he4, hz4, hd4⟩ := fl4.there
          have S4 := J4.suite he4 hd4 na nL nF
          refine wpAny_mono ((hsu a oe4 cls d (X.pn ++ pins) hz4 ⟨_, hd4⟩ nbase).run [] _ _ H' _ S4 (hyes rfl a na)) (fun f s6 hsp => ?_) (fun _ _ z => False.elim z)
          cases f with
          | next => obtain ⟨σ6, H6, S6, q6⟩ := hsp; exact ⟨_, _, S6.unsuite ok, q6⟩
          | brk => obtain ⟨σ6, H6, S6, q6⟩ := hsp; exact ⟨_, _, S6.unsuite ok, q6⟩
          | cont => obtain ⟨σ6, H6, S6, q6⟩ := hsp; exact ⟨_, _, S6.unsuite ok, q6⟩
          | ret u => obtain ⟨v6, σ6, H6, S6, r6, q6⟩ := hsp; exact ⟨_, _, _, S6.unsuite ok, r6, q6⟩
      | @named x n c i ts b₀ suite np pos' hds2 l2 hi hln hc hsu r ih =>
        intro w
        obtain ⟨b, hb1, hyes, hno⟩ := w
        refine wpAny_handleBy_cons (codeAny_handlers_test (test hc ?_)) (by intro q; cases q)
        have LM := PySem.W.exm_one (M := model X.prog X.w) (J3.kIn) LT hb1
        refine LM.here ?_
        cases b with
        | false => exact ih (hno rfl)
        | true =>
          refine codeAny_handlers_suite_as (HandSPX.lands_againZ fl3 fun h4 fl4 up4 => ?_)
          have J4 : Inv X pins σ' H' { s' with heap := h4 } := J.landed nb fl4.1 ((up.trans up3).trans up4) os ag
          obtain ⟨oe4, vs4, he4, hz4, hd4⟩ := fl4.there
          have S4 := J4.suite he4 hd4 na nL nF
          refine store_ok (X := X.suite a ((a, oe4) :: (X.pn ++ pins))) (v := .ref a) S4 hN hi (.inl hln) rfl (fun s5 S5 => ?_) (.inr hln)
          refine wpAny_mono ((hsu a oe4 cls d (X.pn ++ pins) hz4 ⟨_, hd4⟩ nbase).run [] s5 _ H' _ S5 (hyes rfl a na)) (fun f s6 hsp => ?_) (fun _ _ z => False.elim z)
          have end_ : ∀ {σ6 : St} {H6 : Hp} {Q : Shared → Prop}, Inv (X.suite a ((a, oe4) :: (X.pn ++ pins))) [] σ6 H6 s6 → (∀ s7, Inv X pins (σ6.set i none) H6 s7 → Q s7) →
              wpAny (model X.prog X.w) X.A (do bindName X.env n .none; unbindBehindTheSuite X.env n pos') (fun _ s7 => Q s7) X.xe s6 := fun {σ6 H6 Q} S6 hq => gone_ok (S6.unsuite ok) hN hi hln hq
          cases f with
          | next => obtain ⟨σ6, H6, S6, q6⟩ := hsp; exact end_ S6 fun s7 J7 => ⟨_, _, J7, q6⟩
          | brk => obtain ⟨σ6, H6, S6, q6⟩ := hsp; exact end_ S6 fun s7 J7 => ⟨_, _, J7, q6⟩
          | cont => obtain ⟨σ6, H6, S6, q6⟩ := hsp; exact end_ S6 fun s7 J7 => ⟨_, _, J7, q6⟩
          | ret u => obtain ⟨v6, σ6, H6, S6, r6, q6⟩ := hsp; exact end_ S6 fun s7 J7 => ⟨_, _, _, J7, r6, q6⟩
    exact go hh w
  · have z := SP.ofTry ok hsp
    cases f with
    | next => obtain ⟨σ', H', J', q⟩ := z; exact wpAny_execs_nil ⟨σ', H', J', q⟩
    | brk => exact z
    | cont => exact z
    | ret u => exact z
end
end L2

namespace L2
open PySem PySem.Spec PyProof.Rows PySem.RingX

/-- a caught exception, while a def looks at it -/
abbrev errO (a : Addr) (oe : Obj) : HO := .frz oe (.ext fun h => h.get? a = some oe)
theorem errO_ne {a : Addr} {oe : Obj} {o : HO} (h : ∀ q u, o ≠ .frz q u) : errO a oe ≠ o := fun z => h _ _ z.symm

/-- the dict of a caught exception, if it has one, is tracked -/
def DictAt (H : Hp) (d : Option Addr) : Prop := d = none ∨ ∃ dd l, d = some dd ∧ H dd = some (.xd l)
theorem DictAt.get {P : Program} {w : World} {H : Hp} {h : Heap} {d : Option Addr} (D : DictAt H d) (hok : HOk P w H h) {a C : Addr} {oe : Obj} (ha : h.get? a = some oe) (hz : Zc (.ref C) d oe) (hf : ∃ vs, oe.data = .fields vs) : ∃ od, PySem.W.InstAt h a oe C od := by
  obtain ⟨vs, hv⟩ := hf
  have no : PySem.W.notCls oe = true := by unfold PySem.W.notCls; rw [hv] <;> rfl
  rcases D with e | ⟨dd, l, e, q⟩
  · exact ⟨none, ha, hz.1, no, by rw [hz.2, e]; trivial⟩
  · obtain ⟨mA, ⟨o, es, ep, ho, _⟩, _⟩ := (show ObjOk P w H h dd (.xd l) from hok dd _ q)
    exact ⟨some o, ha, hz.1, no, by rw [hz.2, e]; exact ho⟩

section
variable {X : Cx} {pins : List (Addr × Obj)} {σ : St} {H : Hp} {s : Shared}
theorem is_exc {C a : Addr} {oe : Obj} {od : Option Obj} {cv : Value} {b : Bool} {Q : Value → Shared → Prop} {A : Around} {E : Value → Shared → Prop} (K : ExcC X.K C) (X1 : X.K.In s.heap) (J : PySem.W.InstAt s.heap a oe C od) (e : PySem.W.kitOne X.K (.ref C) cv = some b)
    (h : ∀ tk, Q (.bool b) { s with toks := tk }) : wpAny (model X.prog X.w) A (call (.builtin "isinstance") [.ref a, cv]) Q E s :=
  PySem.W.kia_one (PySem.W.kitx_exc (od := od) (by obtain ⟨cd, hc, _⟩ := PySem.W.any_some K.hd; rw [hc]; rfl) K.hg K.hk K.hs K.ha K.hn K.ht K.hm) X1 J e (fun z => nomatch z) h
end

/-- isinstance(e, c), e the exception that the suite holds: cls its class, d its dict -/
def rIsX (K : PySem.W.Frag) (a : Addr) (cls : Value) (d : Option Addr) : List V → Hp → VK → Prop := fun xs H Q => ∃ (c : V) (cv : Value) (C : Addr) (b : Bool), xs = [.ref a, c] ∧ cls = .ref C ∧ ExcC K C ∧ DictAt H d ∧ ClsV c cv ∧ PySem.W.kitOne K (.ref C) cv = some b ∧ Q (.bl b) H
theorem call_isX {X : Cx} {a : Addr} {oe : Obj} {cls : Value} {d : Option Addr} {pn : List (Addr × Obj)} (hz : Zc cls d oe) (hf : ∃ vs, oe.data = .fields vs) : CallR (X.suite a ((a, oe) :: pn)) (.builtin "isinstance") (rIsX X.K a cls d) := by
  intro pins s σ H xs us Q I r h
  obtain ⟨c, cv, C, b, rfl, rfl, K, D, k, e, q⟩ := h
  obtain ⟨u1, u2, rfl, r1, r2⟩ := vals2 r
  cases (show u1 = Value.ref a from r1)
  have e2 := k.eq r2
  subst e2
  obtain ⟨hget, _⟩ := I.pin (a, oe) (List.mem_append.mpr (.inl List.mem_cons_self))
  obtain ⟨od, J⟩ := D.get I.hok hget hz hf
  exact is_exc (X := X) K I.kIn J e fun tk => ⟨.bl b, H, I.tok tk, rfl, q⟩
/-- the same in a def that is handed the exception -/
def rIsA (K : PySem.W.Frag) : List V → Hp → VK → Prop := fun xs H Q => ∃ (a C : Addr) (oe : Obj) (d : Option Addr) (c : V) (cv : Value) (b : Bool), xs = [.ref a, c] ∧ H a = some (errO a oe) ∧ Zc (.ref C) d oe ∧ (∃ vs, oe.data = .fields vs) ∧ ExcC K C ∧ DictAt H d ∧ ClsV c cv ∧ PySem.W.kitOne K (.ref C) cv = some b ∧ Q (.bl b) H
theorem call_isA {X : Cx} : CallR X (.builtin "isinstance") (rIsA X.K) := by
  intro pins s σ H xs us Q I r h
  obtain ⟨a, C, oe, d, c, cv, b, rfl, ha, hz, hf, K, D, k, e, q⟩ := h
  obtain ⟨u1, u2, rfl, r1, r2⟩ := vals2 r
  cases (show u1 = Value.ref a from r1)
  have e2 := k.eq r2
  subst e2
  obtain ⟨hget, _⟩ := (show ObjOk X.prog X.w H s.heap a (errO a oe) from I.hok a _ ha)
  obtain ⟨od, J⟩ := D.get I.hok hget hz hf
  exact is_exc (X := X) K I.kIn J e fun tk => ⟨.bl b, H, I.tok tk, rfl, q⟩

/-! ### a def that is handed the exception which the suite holds -/
section
variable {X : Cx} {pins pn : List (Addr × Obj)} {σ : St} {H : Hp} {s : Shared} {a : Addr} {oe : Obj}
theorem track_ok {P : Program} {w : World} {h : Heap} (hok : HOk P w H h) (ha : h.get? a = some oe) (na : H a = none) : HOk P w (upd H a (errO a oe)) h := fun b o q => by
  by_cases hb : b = a
  · subst hb
    rw [upd_same] at q
    cases q
    exact ⟨ha, ha, ⟨_, ha⟩, fun h1 h2 z k => k _ z⟩
  · rw [upd_ne hb] at q
    exact (hok b o q).stay (fun c v _ z => z) (fun c z => by rw [upd_ne (ne_of_none z na)]; exact z) fun c xs z => by rw [upd_ne (ne_of_none z na)]; exact z
theorem untrack_ok {P : Program} {w : World} {h : Heap} (hok : HOk P w H h) (ha : H a = some (errO a oe)) : HOk P w (del H a) h := fun b o q => by
  have hb : b ≠ a := fun z => by rw [z, del_same] at q; cases q
  rw [del_ne hb] at q
  refine (hok b o q).stay (fun c v _ z => z) (fun c z => ?_) fun c xs z => ?_
  · rw [del_ne (ne_of z ha (fun y => nomatch y))]
    exact z
  · rw [del_ne (ne_of z ha (fun y => nomatch y))]
    exact z
theorem untrack_un {fs : List Addr} {H2 : Hp} {h h2 : Heap} {P : Program} {w : World} (na : H a = none) (ha : h.get? a = some oe) (hok : HOk P w H2 h2) (u : Un fs [] (upd H a (errO a oe)) H2 h h2) : Un fs [] H (del H2 a) h h2 := by
  have h2a : H2 a = some (errO a oe) := u.frzs a _ _ upd_same
  have ga : h2.get? a = some oe := (hok a _ h2a).1
  have up : ∀ {b : Addr}, b ≠ a → H b = none → upd H a (errO a oe) b = none := fun {b} hb n => by rw [upd_ne hb]; exact n
  refine ⟨fun b o e n hf hx => ?_, fun b o e n hf hx => ?_, fun b o e n hx => ?_, fun b o e hx => u.there b o e hx, fun b xs q => ?_, fun b o v q => ?_, fun b ps q => ?_⟩
  · by_cases hb : b = a
    · subst hb
      rw [ha] at e
      cases e
      exact ga
    · exact u.keep b o e (up hb n) hf hx
  · by_cases hb : b = a
    · subst hb
      rw [ha] at e
      cases e
      exact ⟨_, ga⟩
    · exact u.slot b o e (up hb n) hf hx
  · by_cases hb : b = a
    · rw [hb]
      exact del_same
    · rw [del_ne hb]
      exact u.free b o e (up hb n) hx
  · have hb := ne_of_none q na
    rw [del_ne hb]
    exact u.tups b xs (by rw [upd_ne hb]; exact q)
  · have hb := ne_of_none q na
    rw [del_ne hb]
    exact u.frzs b o v (by rw [upd_ne hb]; exact q)
  · have hb := ne_of_none q na
    obtain ⟨m, e⟩ := u.tbls b ps (by rw [upd_ne hb]; exact q)
    exact ⟨m, by rw [del_ne hb]; exact e⟩
end
theorem noX {P : Program} {w : World} {outer : List Env} (H : Hp) (s : Shared) (e : Value) (s' : Shared) : ¬ L2.CX P w outer H s E0 e s' := fun ⟨_, _, _, _, _, _, _, _, _, _, _, _, z⟩ => z
theorem no0 {outer : List Env} (H : Hp) (s : Shared) (e : Value) (s' : Shared) : ¬ CX0 outer H s E0 e s' := fun z => z
end L2

namespace L2
open PySem PySem.Spec PyProof.Rows PySem.RingX
/-! ### a def that is called while an exception is handled, and lets nothing out -/
structure RoomS (k : Nat) (A : Around) : Prop where
  dp : A.depth + 3 * k + 5 < recursionLimit
  un : A.units + 16 * k + 200 < cLine
theorem RoomS.of {k : Nat} {A : Around} (r : Room k A) (h : Option Value) : RoomS k (A.mark h) := ⟨r.dp, r.un⟩
theorem RoomS.mono {j k : Nat} {A : Around} (r : RoomS k A) (h : j ≤ k) : RoomS j A := ⟨by have := r.dp; omega, by have := r.un; omega⟩
theorem RoomS.deeper {k : Nat} {A : Around} (r : RoomS (k + 1) A) (env : Env) : RoomS k (A.deeper env) :=
  ⟨by have := r.dp; show A.depth + 1 + 3 * k + 5 < _; omega, by have := r.un; show A.units + 3 + 16 * k + 200 < _; omega⟩
structure FnS (P : Program) (w : World) (K : PySem.W.Frag) (mg : Str → Option Value) (base : Heap) (k : Nat) (f : Addr) (fd : FuncData) (ps : List Str) (sp : Sp) : Prop where
  len : ∀ vs H Q E, sp vs H Q E → vs.length = ps.length
  run : ∀ (A : Around) (outer : List Env) (s : Shared) (H : Hp) (args : Args) (us : List Value) (vs : List V) (Q : VK), RoomS k A → Env0 P w K mg base A outer s H → BindsTo s fd args (ps.zip us) → Vals vs us → sp vs H Q E0 →
    codeAny (model P w) A (.call (.ref f) args) (CR CX0 outer P w H s Q E0) s
/-- such a def's context -/
def cxS (P : Program) (w : World) (K : PySem.W.Frag) (mg : Str → Option Value) (base : Heap) (N : List Str) (qual : Str) (scope : Scope) (f : Addr) (cd : Value) (A : Around) (outer : List Env) (s : Shared) (H : Hp) : Cx :=
  { cxOf CX0 P w K mg base N qual scope f cd A outer s H E0 with calm := false, xe := fun _ _ => False }
theorem Fun.okS {P : Program} {w : World} {K : PySem.W.Frag} {mg : Str → Option Value} {base : Heap} {x qual : Str} {st : Stmt} {f : Addr} {fd : FuncData} {N ps : List Str} {k : Nat} {sp : Sp} (F : Fun K x qual st f fd) (S : FnScope N ps (defScope st)) (len : ∀ vs H Q E, sp vs H Q E → vs.length = ps.length)
    (hbody : ∀ (cdv : Value) (A : Around) (outer : List Env) (s : Shared) (H : Hp) (vs : List V) (Q : VK), RoomS k (A.deeper (envOfC qual (defScope st) s.heap.objs.size f cdv)) → sp vs H Q E0 →
      ∃ t, PSs (cxS P w K mg base N qual (defScope st) f cdv A outer s H) (defBody st) t ∧ t { nx := fun _ H' => Q .non H', rt := Q } (start N vs) H) : FnS P w K mg base (k + 1) f fd ps sp := by
  obtain ⟨oc, od, kV, doc, pm, an, cdv, ct, osl, rfl, lk, hcd⟩ := F.ex
  refine ⟨len, fun A outer s H args us vs Q hr e0 hb r hsp => ?_⟩
  have hl := len _ _ _ _ hsp
  have KX : K.In s.heap := e0.mod.kin.keeps fun b o e => (e0.bs b o e).1
  have lim : s.heap.NoLimit := e0.mod.nolimit.keeps fun b o e => (e0.bs b o e).1
  have hkind : ∀ y ∈ ps.zip us, (defScope st).names.lookup y.1 = some .local ∨ ((defScope st).names.lookup y.1 = some .cell ∧ ((cellsFrom (s.heap.objs.size + 1) (defScope st).names []).lookup y.1).isSome = true) := fun ⟨n, v⟩ hy =>
    (S.par n (List.of_mem_zip hy).1).elim .inl fun q => .inr ⟨q, PySem.W.cellsFrom_some _ _ _ (.inl q)⟩
  refine codeAny_call_function (by have := hr.dp; omega) (KX _ _ lk) rfl S.co S.gen rfl (PySem.W.codeRec_of KX hcd) (hb _ _ _ _ ?_)
  refine wpAny_newFunctionEnv_cells S.kind hkind fun env he s1 y => ?_
  subst he
  refine ⟨lim.keeps y.toInCall.keep, codeAny_func ?_⟩
  obtain ⟨t, ht, hq⟩ := hbody cdv A outer s H vs Q (hr.deeper _) hsp
  have e1 : Env0 P w K mg base { A with handled := none } outer s H := ⟨e0.frames, e0.mod, e0.bs, e0.bsz, e0.funs, e0.frf, e0.hok, e0.bare⟩
  have I0 : Inv (cxOf CX0 P w K mg base N qual (defScope st) f cdv { A with handled := none } outer s H E0) [] (start N vs) H s1 := inv_start S rfl e1 hl r y
  have I : Inv (cxS P w K mg base N qual (defScope st) f cdv A outer s H) [] (start N vs) H s1 :=
    ⟨⟨I0.ok.mod, I0.ok.kind, I0.ok.glob, I0.ok.blt, I0.ok.above, I0.ok.inj, I0.ok.has, I0.ok.cab, (fun z => Bool.noConfusion (show false = true from z)), I0.ok.frames, I0.ok.stk, I0.ok.exf, I0.ok.bs, I0.ok.bsz, I0.ok.noex, I0.ok.exfs, I0.ok.funs, I0.ok.frf⟩,
      I0.os, I0.bare, I0.base, I0.loc, I0.cell, I0.free, I0.freeC, I0.pin, I0.hok, I0.len⟩
  refine wpAny_mono (ht.run [] s1 (start N vs) H _ I hq) (fun fl s' hs => ?_) fun e s' hs => False.elim hs
  have fin : ∀ {σ' : St} {H' : Hp} {v : V} {u : Value}, Inv (cxS P w K mg base N qual (defScope st) f cdv A outer s H) [] σ' H' s' → RelV v u → Q v H' → CE outer P w H s Q u s' :=
    fun {σ' H' v u} J rv q => ⟨v, H', J.os, J.bare, J.base, J.hok, rv, q⟩
  cases fl with
  | ret u => obtain ⟨v, σ', H', J, rv, q⟩ := hs; exact fin J rv q
  | next => obtain ⟨σ', H', J, q⟩ := hs; exact fin (v := V.non) (u := Value.none) J rfl q
  | brk => obtain ⟨_, _, _, q⟩ := hs; exact False.elim q
  | cont => obtain ⟨_, _, _, q⟩ := hs; exact False.elim q

/-- f(e, ..) in a suite; the def is handed the exception at a as an object that it may look at -/
def tCallE (a : Addr) (cls : Value) (d : Option Addr) (sp : Sp) (t : TA) : TE := fun σ H Q => t σ H fun vs H1 => ∀ oe, Zc cls d oe → (∃ vs, oe.data = .fields vs) → H1 a = none → sp vs (upd H1 a (errO a oe)) (fun v H2 => Q v (del H2 a)) E0
section
variable {X : Cx} {k : Nat} {f : Addr} {fd : FuncData} {ps : List Str} {sp : Sp} {x : Str} {p pos : Pos} {e : Expr} {es : List Expr} {t : TA} {a : Addr} {oe : Obj} {cls : Value} {d : Option Addr} {pn : List (Addr × Obj)}
theorem pe_callE (hbase : X.base.get? a = none) (hz : Zc cls d oe) (hfd : ∃ vs, oe.data = .fields vs) (F : FnS X.prog X.w X.K X.mg X.base k f fd ps sp) (hr : Room k X.A) (hg : Gl X x) (hm : X.mg x = some (.ref f)) (hk : PySem.W.keepIn X.K (.ref f) = true) (hb : Binds X.K fd ps [])
    (ha : PA (X.suite a ((a, oe) :: pn)) (e :: es) t) (hdb : (x == ("__debug__" : Str)) = false := by decide)
    (he : starEach (e :: es) X.env = (false, eval e X.env) :: starEach es X.env := by rfl) (hpl : (backTo pos (starEach es X.env)).any (·.1) = false := by rfl) :
    PE (X.suite a ((a, oe) :: pn)) (.Call (.Name x p) (e :: es) [] pos) (tCallE a cls d sp t) := by
  refine ⟨fun pins s σ H Q I h => ?_⟩
  refine wpAny_Call_Name_kw (ld_glob I hg hm ?_ hdb)
  refine PySem.W.callWith_K (h₀ := X.base) I.ok.mod.kin hk (thn (ha.run pos pins s σ H _ I h) fun us s1 ⟨vs, H1, I1, r, q⟩ => ⟨I1.kIn, ?_⟩) he hpl
  show wpAny _ _ (call (.ref f) us) _ _ _
  obtain ⟨hget, na, nL, nF, _⟩ := I1.pin (a, oe) (List.mem_append.mpr (.inl List.mem_cons_self))
  have na' : H1 a = none := na
  have hq := q oe hz hfd na'
  have hl : us.length = ps.length := by rw [← r.length]; exact F.len _ _ _ _ hq
  have b := hb s1 us I1.kIn (by rw [List.append_nil]; exact hl)
  rw [List.append_nil] at b
  have e0 := I1.env0
  have nst : a ∉ frs X.stack := fun z => (List.mem_cons.mp (I1.stkSub a z)).elim nL nF
  have e1 : Env0 X.prog X.w X.K X.mg X.base (X.A.mark (some (.ref a))) X.stack s1 (upd H1 a (errO a oe)) := by
    refine ⟨e0.frames, e0.mod, fun c o z => ?_, e0.bsz, e0.funs, fun c z => ?_, track_ok e0.hok hget na', e0.bare⟩
    · have hc : c ≠ a := fun y => by rw [y, hbase] at z; cases z
      exact ⟨(e0.bs c o z).1, by rw [upd_ne hc]; exact (e0.bs c o z).2⟩
    · have hc : c ≠ a := fun y => nst (y ▸ z)
      rw [upd_ne hc]
      exact e0.frf c z
  refine wpAny_call (codeAny_mono (F.run _ X.stack s1 _ ⟨us, []⟩ us vs _ (.of hr _) e1 b r hq) fun r' s' hq' => ?_)
  cases r' with
  | error e => exact False.elim hq'
  | ok fl =>
    cases fl with
    | ret u =>
      obtain ⟨v, H2, os, bare, un, hok, rv, q2⟩ := hq'
      exact I1.after ⟨v, del H2 a, os, bare, untrack_un na' hget hok un, untrack_ok hok (un.frzs a _ _ upd_same), rv, q2⟩
    | next => exact False.elim hq'
    | brk => exact False.elim hq'
    | cont => exact False.elim hq'
end
end L2

namespace L2
open PySem PySem.Spec PyProof.Rows PySem.RingX
/-! ### the facts of such a class, from what the top has written -/
def exB (K : PySem.W.Frag) (C fI : Addr) (fs : List Str) : Bool :=
  decide (PySem.W.findIn K (.ref C) "__setattr__" = some (some (.builtin "object.__setattr__"))) && (xfB K C && (fs.all (fun f => decide (PySem.W.findIn K (.ref C) f = some none)) &&
    (decide (PySem.W.findIn K (.ref C) "__init__" = some (some (.ref fI))) && (decide (PySem.W.typeIn K (.ref fI) = some (.type "function")) && (PySem.W.keepIn K (.ref C) && (decide (PySem.W.typeIn K (.ref C) = some (.type "type")) &&
      (decide (PySem.W.ks_superIn K C C "__init__" = some (some (.builtin "ValueError.__init__"))) && (decide (PySem.W.subIn K (.ref C) (.type "ValueError") = some true) && (decide (PySem.W.mroIn K C (.ref C) = some true) &&
        (decide (PySem.W.findIn K (.ref C) "__class__" = some (some (.builtin "object.__class__"))) && decide (PySem.W.mroIn K C (.type "object") = some true)))))))))))
structure ExF (K : PySem.W.Frag) (C fI : Addr) (fs : List Str) : Prop where
  sa : PySem.W.findIn K (.ref C) "__setattr__" = some (some (.builtin "object.__setattr__"))
  xf : XfC K C
  noN : ∀ f ∈ fs, PySem.W.findIn K (.ref C) f = some none
  iC : PySem.W.findIn K (.ref C) "__init__" = some (some (.ref fI))
  tC : PySem.W.typeIn K (.ref fI) = some (.type "function")
  kC : PySem.W.keepIn K (.ref C) = true
  tyC : PySem.W.typeIn K (.ref C) = some (.type "type")
  sI : PySem.W.ks_superIn K C C "__init__" = some (some (.builtin "ValueError.__init__"))
  sV : PySem.W.subIn K (.ref C) (.type "ValueError") = some true
  mC : PySem.W.mroIn K C (.ref C) = some true
  cl : PySem.W.findIn K (.ref C) "__class__" = some (some (.builtin "object.__class__"))
  mo : PySem.W.mroIn K C (.type "object") = some true
theorem exB_ok {K : PySem.W.Frag} {C fI : Addr} {fs : List Str} (h : exB K C fI fs = true) : ExF K C fI fs := by
  unfold exB at h
  simp only [Bool.and_eq_true, decide_eq_true_eq, List.all_eq_true] at h
  obtain ⟨h1, h2, h3, h4, h5, h6, h7, h8, h9, h10, h11, h12⟩ := h
  exact ⟨h1, xfB_ok h2, h3, h4, h5, h6, h7, h8, h9, h10, h11, h12⟩
def psOf (st : Stmt) : Pos := match (defArgs st).args with | a :: _ => a.pos | [] => ⟨0, 0, 0, 0⟩
def fpOf (st : Stmt) : List (Str × Pos) := match (defArgs st).args with | _ :: r => r.map fun a => (a.arg, a.pos) | [] => []
def txtOf (st : Stmt) : Str := match defBody st with | .Expr (.Call _ [.Constant (.str t) _ _] _ _) _ :: _ => t | _ => ""
def supOf (st : Stmt) : SupP := match defBody st with
  | .Expr (.Call (.Attribute (.Call (.Name _ q0) _ _ q1) _ q2) [.Constant _ _ q3] _ q4) q5 :: _ => ⟨q0, q1, q2, q3, q4, q5⟩
  | _ => ⟨⟨0, 0, 0, 0⟩, ⟨0, 0, 0, 0⟩, ⟨0, 0, 0, 0⟩, ⟨0, 0, 0, 0⟩, ⟨0, 0, 0, 0⟩, ⟨0, 0, 0, 0⟩⟩
def setOf : Stmt → Str × SetP
  | .Assign [.Attribute (.Name _ p1) f p2] (.Name _ p3) p4 => (f, ⟨p1, p2, p3, p4⟩)
  | _ => ("", ⟨⟨0, 0, 0, 0⟩, ⟨0, 0, 0, 0⟩, ⟨0, 0, 0, 0⟩, ⟨0, 0, 0, 0⟩⟩)
def setsOf (st : Stmt) : List (Str × SetP) := match defBody st with | _ :: r => r.map setOf | [] => []
/-- the text of such an __init__ -/
structure ExText (st : Stmt) (fs : List Str) : Prop where
  hA : defArgs st = exArgs (psOf st) (fpOf st)
  hB : defBody st = exSup (txtOf st) (supOf st) :: (setsOf st).map exSet
  hS : defScope st = exScope fs
  hN : (setsOf st).map (·.1) = fs
  hL : ((supOf st).q2.endLine == (supOf st).q4.line) = true
  nm : namesOk fs = true
  len : fs.length ≤ 500
  bind : ∀ (qual : Str) (kV doc pm : Value) (an : Option Addr) (cda : Addr) (ct : Value) (cc : Addr) (s : Shared) (x : Value) (us : List Value), us.length = fs.length →
    BindsTo s (PySem.W.ksFn "__init__" qual (defArgs st) (defBody st) (defScope st) .none kV doc pm an (.ref cda) ct cc) ⟨x :: us, []⟩ (("self", x) :: fs.zip us)
theorem ex_mk {prog : Program} {K : PySem.W.Frag} {h : Heap} {mg : Str → Option Value} {C fI cc cda : Addr} {nm cn qual q file : Str} {fs : List Str} {st : Stmt} {N : Addr} {bs bm : List Value} {sn : List Str} {sub : List Value} {ab : Bool} {col : Option Bool} {dd : Option Addr} {k0 k1 k2 k3 k5 : Option Value}
    {oc kV doc pm ct cl ccl : Value} {od an cld cdd : Option Addr} {osl csl ccs : Array (Option Value)} {vs : Array Value} {tf : Tok}
    (X : K.In h) (G : h.Ns mainGlobals mg) (T : ExText st fs)
    (aC : PySem.W.nsIn K mainGlobals nm = some (some (.ref C)))
    (xC : K.lookup C = some (excClassObj cn q C N bs bm true sn sub ab col dd k0 k1 k2 k3 k5 "ValueError.__new__")) (hbm : PySem.HandSPX.refsVE bm = true)
    (l : K.lookup fI = some ⟨oc, od, .func (PySem.W.ksFn "__init__" qual (defArgs st) (defBody st) (defScope st) .none kV doc pm an (.ref cda) ct cc), osl⟩) (cd : PySem.W.codeIn K (.ref cda) qual = true)
    (cel : K.lookup cc = some ⟨cl, cld, .cell (some (.ref C)), csl⟩) (ca : K.lookup cda = some ⟨ccl, cdd, .fields vs, ccs⟩) (hv : vs[2]? = some (.str file tf)) (hf : ((prog.main.file : Str) == file) = true)
    (chk : exB K C fI fs = true) (op : PySem.W.nsIn K PySem.cStatics "thirdparty.any" = some none) (su : PySem.W.nsIn K mainGlobals "super" = some none) (htop : (prog.main.scope.names.lookup ("super" : Str)).isSome = false) : ExTxt prog K mg C fI nm fs := by
  have F := exB_ok chk
  have b := T.bind
  rw [T.hA, T.hB, T.hS] at l b
  exact ⟨PySem.W.mg_of X G aC, ⟨cn, q, N, bs, bm, sn, sub, ab, col, dd, k0, k1, k2, k3, k5, xC, hbm⟩, F.sa, F.xf.ga, F.xf.gg, F.noN, F.iC, F.tC, F.kC, F.xf.exC, F.tyC, F.xf.hdC, op, F.sI, F.sV, F.mC, PySem.W.mg_none_of X G su, htop, T.nm, T.len,
    ⟨oc, od, kV, doc, pm, an, cda, ct, cc, osl, psOf st, fpOf st, txtOf st, supOf st, setsOf st, qual, ccl, cl, cdd, cld, ccs, csl, vs, file, tf, l, cd, T.hN, T.hL, ca, hv, hf, cel, b _ _ _ _ _ _ _ _⟩⟩
theorem exc_mk {K : PySem.W.Frag} {C fI : Addr} {fs : List Str} (chk : exB K C fI fs = true) (hn : PySem.W.specialIn K (.builtin "object.__class__") "__get__" = some (some (.builtin "getset_descriptor.__get__"))) (ht : PySem.W.takesIn K (.builtin "object.__class__") = some true) : ExcC K C := by
  have F := exB_ok chk
  exact ⟨F.xf.ga, F.xf.gg, F.xf.exC, F.xf.hdC, F.cl, hn, ht, F.mo⟩
/-- which of the classes cs lie below which -/
def relB (K : PySem.W.Frag) (cs : List Addr) : Bool := cs.zipIdx.all fun p => cs.zipIdx.all fun q => decide (PySem.W.subIn K (.ref p.1) (.ref q.1) = some (decide (p.2 = q.2)))
theorem relB_ok {K : PySem.W.Frag} {cs : List Addr} (h : relB K cs = true) {i j : Nat} (hi : i < cs.length) (hj : j < cs.length) : PySem.W.subIn K (.ref (cs.getD i 0)) (.ref (cs.getD j 0)) = some (decide (i = j)) := by
  unfold relB at h
  rw [List.all_eq_true] at h
  have h1 := h (cs[i], i) (List.mk_mem_zipIdx_iff_getElem?.mpr (List.getElem?_eq_getElem hi))
  rw [List.all_eq_true] at h1
  have h2 := of_decide_eq_true (h1 (cs[j], j) (List.mk_mem_zipIdx_iff_getElem?.mpr (List.getElem?_eq_getElem hj)))
  have e1 : cs.getD i 0 = cs[i] := by rw [List.getD_eq_getElem?_getD, List.getElem?_eq_getElem hi]; rfl
  have e2 : cs.getD j 0 = cs[j] := by rw [List.getD_eq_getElem?_getD, List.getElem?_eq_getElem hj]; rfl
  rw [e1, e2]
  exact h2
theorem kit_ref {K : PySem.W.Frag} {C : Addr} {cls : Value} {b : Bool} (hd : PySem.W.hasDictIn K C = true) (ht : PySem.W.typeIn K (.ref C) = some (.type "type")) (hs : PySem.W.subIn K cls (.ref C) = some b) (hself : cls = .ref C → b = true) : PySem.W.kitOne K cls (.ref C) = some b := by
  unfold PySem.W.kitOne
  by_cases e : cls = .ref C
  · rw [if_pos (by rw [e]; exact beq_self_eq_true _), hself e]
  · rw [if_neg (by simpa using e)]
    unfold PySem.W.kitCls
    obtain ⟨cd, hc, _⟩ := PySem.W.any_some hd
    have z : ((PySem.W.clsIn K C).isSome && PySem.W.typeIn K (.ref C) == some (.type "type")) = true := by rw [hc, ht]; rfl
    show (if ((PySem.W.clsIn K C).isSome && PySem.W.typeIn K (.ref C) == some (.type "type")) = true then PySem.W.subIn K cls (.ref C) else none) = some b
    rw [if_pos z, hs]
theorem kit_type {K : PySem.W.Frag} {T : String} {cls : Value} {b : Bool} (hm : PySem.W.kitMeta T = true) (hs : PySem.W.subIn K cls (.type T) = some b) (hn : cls ≠ .type T) : PySem.W.kitOne K cls (.type T) = some b := by
  unfold PySem.W.kitOne
  rw [if_neg (by simpa using hn)]
  show (if PySem.W.kitMeta T = true then PySem.W.subIn K cls (.type T) else none) = some b
  rw [if_pos hm, hs]
end L2

/-! ## Rings: rows as data, their lengths, what is lawful -/
namespace Rg
open PySem
abbrev D := PyData
def isT : D → Bool | .tuple _ => true | _ => false
def emp : D → Bool | .none => true | _ => false
def wholeD : D → Bool | .int _ => true | _ => false
def prD : D → Bool | .tuple [.int _, .int h] => decide (0 ≤ h) | _ => false
def itemD : D → Bool | .tuple [.int _, .int h, .int _] => decide (0 ≤ h) | _ => false
def stoneD : D → Bool | .str x => x == "stone" | _ => false
def rowD (d : D) : Bool := emp d || stoneD d || itemD d
def keyD : D → Int | .tuple (.int k :: _) => k | _ => 0
def hashD : D → Int | .tuple [_, .int h, _] => h | _ => 0
def keysDiffer (ds : List D) : Bool := decide ((ds.map keyD).Nodup)
def ringL (ds : List D) : Bool := ds.all rowD && (ds.any emp && keysDiffer (ds.filter isT))
def ringD : D → Bool | .tuple ds => ringL ds | _ => false
theorem emp_none {d : D} : emp d = true ↔ d = .none := by
  cases d <;> simp [emp]
theorem isT_emp {d : D} (h : isT d = true) : emp d = false := by
  cases d <;> simp [isT, emp] at *

/-- the row number i, any whole number: round and round -/
def row (ds : List D) (i : Int) : D := ds.getD (i % (ds.length : Int)).toNat .none
def E (ds : List D) (i : Int) : Prop := emp (row ds i) = true
instance (ds : List D) (i : Int) : Decidable (E ds i) := inferInstanceAs (Decidable (_ = true))
theorem row_add (ds : List D) (i : Int) (k : Int) : row ds (i + ds.length * k) = row ds i := by
  unfold row
  rw [Int.add_mul_emod_self_left]
theorem row_mod (ds : List D) (i : Int) : row ds (i % ds.length) = row ds i := by
  unfold row
  rw [Int.emod_emod_of_dvd _ (Int.dvd_refl _)]
theorem row_congr {ds : List D} {i j : Int} (h : i % ds.length = j % ds.length) : row ds i = row ds j := by
  unfold row
  rw [h]
theorem row_nat {ds : List D} {i : Nat} (h : i < ds.length) : row ds (i : Int) = ds[i] := by
  unfold row
  rw [Int.emod_eq_of_lt (by omega) (by omega), Int.toNat_natCast, List.getD_eq_getElem?_getD, List.getElem?_eq_getElem h]
  rfl
theorem row_get? {ds : List D} {i : Nat} (h : i < ds.length) : ds[i]? = some (row ds (i : Int)) := by
  rw [row_nat h, List.getElem?_eq_getElem h]

/-- from p on, n rows hold something, and the next one is empty -/
def IsLen (ds : List D) (p : Int) (n : Nat) : Prop := E ds (p + n) ∧ ∀ j : Nat, j < n → ¬ E ds (p + j)
theorem IsLen.uniq {ds : List D} {p : Int} {a b : Nat} (x : IsLen ds p a) (y : IsLen ds p b) : a = b := by
  rcases Nat.lt_trichotomy a b with h | h | h
  · exact absurd x.1 (y.2 a h)
  · exact h
  · exact absurd y.1 (x.2 b h)
theorem least {P : Nat → Prop} (h : ∃ n, P n) : ∃ n, P n ∧ ∀ j, j < n → ¬ P j := by
  obtain ⟨n, hn⟩ := h
  induction n using Nat.strongRecOn with
  | _ n ih =>
    by_cases c : ∃ j, j < n ∧ P j
    · obtain ⟨j, h1, h2⟩ := c
      exact ih j h1 h2
    · exact ⟨n, hn, fun j hj hp => c ⟨j, hj, hp⟩⟩
/-- some row is empty -/
def Open_ (ds : List D) : Prop := ∃ i : Int, E ds i
theorem open_pos {ds : List D} (i : Int) (h : ¬ E ds i) : 0 < ds.length := by
  cases ds with
  | nil => exact absurd (show E [] i from rfl) h
  | cons _ _ => simp
theorem open_fwd {ds : List D} (hm : 0 < ds.length) (h : Open_ ds) (p : Int) : ∃ n : Nat, n < ds.length ∧ E ds (p + n) := by
  obtain ⟨i, hi⟩ := h
  refine ⟨((i - p) % ds.length).toNat, ?_, ?_⟩
  · have h1 := Int.emod_lt_of_pos (i - p) (show (0 : Int) < ds.length by omega)
    have h2 := Int.emod_nonneg (i - p) (show (ds.length : Int) ≠ 0 by omega)
    omega
  · have h2 := Int.emod_nonneg (i - p) (show (ds.length : Int) ≠ 0 by omega)
    unfold E
    rw [Int.toNat_of_nonneg h2, show row ds (p + (i - p) % ds.length) = row ds i from row_congr (by
      rw [Int.add_comm, Int.emod_add_emod]
      congr 1
      omega)]
    exact hi
theorem len_ex {ds : List D} (hm : 0 < ds.length) (h : Open_ ds) (p : Int) : ∃ n, n < ds.length ∧ IsLen ds p n := by
  obtain ⟨n0, h0, e0⟩ := open_fwd hm h p
  obtain ⟨n, hn, hl⟩ := least (P := fun n => E ds (p + n)) ⟨n0, e0⟩
  refine ⟨n, ?_, hn, hl⟩
  rcases Nat.lt_or_ge n ds.length with z | z
  · exact z
  · exact absurd e0 (hl n0 (by omega))
theorem back_ex {ds : List D} (hm : 0 < ds.length) (h : Open_ ds) (p : Int) : ∃ n : Nat, E ds (p - 1 - n) ∧ ∀ j : Nat, j < n → ¬ E ds (p - 1 - j) := by
  obtain ⟨n0, h0, e0⟩ := open_fwd hm h p
  refine least (P := fun n : Nat => E ds (p - 1 - n)) ⟨ds.length - 1 - n0, ?_⟩
  unfold E at *
  have e : row ds (p - 1 - ((ds.length - 1 - n0 : Nat) : Int)) = row ds (p + n0) := row_congr (by
    have q : p - 1 - ((ds.length - 1 - n0 : Nat) : Int) = (p + n0) + ds.length * (-1) := by omega
    rw [q, Int.add_mul_emod_self_left])
  show emp (row ds (p - 1 - ((ds.length - 1 - n0 : Nat) : Int))) = true
  rw [e]
  exact e0
open Classical in
/-- how many rows hold something from p on -/
noncomputable def len (ds : List D) (p : Int) : Nat := if h : ∃ n, IsLen ds p n then choose h else 0
theorem len_spec {ds : List D} {p : Int} (h : ∃ n, IsLen ds p n) : IsLen ds p (len ds p) := by
  unfold len
  rw [dif_pos h]
  exact Classical.choose_spec h
theorem len_of {ds : List D} {p : Int} {n : Nat} (h : IsLen ds p n) : len ds p = n := (len_spec ⟨n, h⟩).uniq h

/-- the runs among the rows below n -/
noncomputable def runsTo (ds : List D) (n : Nat) : List (Nat × Nat) := (List.range n).filterMap fun (f : Nat) => if ¬ E ds (f : Int) ∧ E ds ((f : Int) - 1) then some (f, len ds f) else none
noncomputable def runs (ds : List D) : List (Nat × Nat) := runsTo ds ds.length
theorem runsTo_succ (ds : List D) (n : Nat) : runsTo ds (n + 1) = runsTo ds n ++ (if ¬ E ds (n : Int) ∧ E ds ((n : Int) - 1) then [(n, len ds n)] else []) := by
  unfold runsTo
  rw [List.range_succ, List.filterMap_append]
  congr 1
  by_cases c : ¬ E ds n ∧ E ds ((n : Int) - 1)
  · rw [List.filterMap_cons, if_pos c, if_pos c]; rfl
  · rw [List.filterMap_cons, if_neg c, if_neg c]; rfl
theorem mem_runs {ds : List D} {q : Nat × Nat} : q ∈ runs ds ↔ q.1 < ds.length ∧ ¬ E ds q.1 ∧ E ds ((q.1 : Int) - 1) ∧ q.2 = len ds q.1 := by
  unfold runs runsTo
  rw [List.mem_filterMap]
  constructor
  · rintro ⟨f, hf, e⟩
    split at e
    · rename_i c
      cases e
      exact ⟨List.mem_range.mp hf, c.1, c.2, rfl⟩
    · cases e
  · rintro ⟨h1, h2, h3, h4⟩
    refine ⟨q.1, List.mem_range.mpr h1, ?_⟩
    rw [if_pos ⟨h2, h3⟩, ← h4]

/-- how far the item in the row r is from its home -/
def gap (ds : List D) (r : Int) : Int := (r - hashD (row ds r)) % ds.length
def Reached (ds : List D) : Prop := ∀ r : Int, isT (row ds r) = true → ∀ j : Nat, (j : Int) ≤ gap ds r → ¬ E ds (r - j)
def InOrder (ds : List D) : Prop := ∀ r : Int, isT (row ds r) = true → isT (row ds (r + 1)) = true → gap ds (r + 1) ≤ gap ds r + 1
def NoStone (ds : List D) : Prop := ∀ r : Int, stoneD (row ds r) = false
theorem gap_congr {ds : List D} {i j : Int} (h : i % ds.length = j % ds.length) : gap ds i = gap ds j := by
  unfold gap
  rw [row_congr h, Int.sub_emod, h, ← Int.sub_emod]
theorem gap_mod (ds : List D) (i : Int) : gap ds (i % ds.length) = gap ds i := gap_congr (Int.emod_emod_of_dvd _ (Int.dvd_refl _))
theorem gap_nn {ds : List D} (hm : 0 < ds.length) (r : Int) : 0 ≤ gap ds r := Int.emod_nonneg _ (by omega)
theorem gap_lt {ds : List D} (hm : 0 < ds.length) (r : Int) : gap ds r < ds.length := Int.emod_lt_of_pos _ (by omega)
theorem isT_notE {ds : List D} {r : Int} (h : isT (row ds r) = true) : ¬ E ds r := by
  unfold E
  rw [isT_emp h]
  exact Bool.false_ne_true
theorem E_congr {ds : List D} {i j : Int} (h : i % ds.length = j % ds.length) : E ds i ↔ E ds j := by
  unfold E
  rw [row_congr h]
theorem reached_runs {ds : List D} (hm : 0 < ds.length) (ho : Open_ ds) : Reached ds ↔ ∀ q ∈ runs ds, ∀ b : Nat, b < q.2 → isT (row ds (q.1 + b)) = true → gap ds (q.1 + b) ≤ b := by
  constructor
  · intro R q hq b hb ht
    obtain ⟨h1, h2, h3, h4⟩ := mem_runs.mp hq
    refine Int.not_lt.mp fun hlt => ?_
    refine R _ ht (b + 1) (by omega) ?_
    have e : ((q.1 : Int) + b) - ((b + 1 : Nat) : Int) = (q.1 : Int) - 1 := by omega
    rw [e]
    exact h3
  · intro H r ht j hj
    obtain ⟨n, hn, hl⟩ := back_ex hm ho r
    have nE : ∀ i : Nat, i ≤ n → ¬ E ds (r - i) := fun i hi => by
      cases i with
      | zero => rw [show r - ((0 : Nat) : Int) = r by omega]; exact isT_notE ht
      | succ i =>
        have := hl i (by omega)
        rw [show r - ((i + 1 : Nat) : Int) = r - 1 - i by omega]
        exact this
    -- the first row of its run
    have hf0 := Int.emod_nonneg (r - n) (show (ds.length : Int) ≠ 0 by omega)
    have hf1 := Int.emod_lt_of_pos (r - n) (show (0 : Int) < ds.length by omega)
    have ef : (((r - n) % ds.length).toNat : Int) = (r - n) % ds.length := Int.toNat_of_nonneg hf0
    have cong : ∀ k : Int, ((((r - n) % ds.length).toNat : Int) + k) % ds.length = (r - n + k) % ds.length := fun k => by
      rw [ef, Int.emod_add_emod]
    obtain ⟨L, hL, isL⟩ := len_ex hm ho ((((r - n) % ds.length).toNat : Nat) : Int)
    have hLn : n < L := by
      refine Nat.not_le.mp fun z => ?_
      have := isL.1
      rw [E_congr (cong L)] at this
      refine nE (n - L) (by omega) ?_
      rw [show r - ((n - L : Nat) : Int) = r - n + L by omega]
      exact this
    have mem : (((r - n) % ds.length).toNat, L) ∈ runs ds := mem_runs.mpr ⟨by omega, by
        have := cong 0
        rw [Int.add_zero, Int.add_zero] at this
        rw [E_congr this]
        exact nE n (Nat.le_refl _), by
        have := cong (-1)
        rw [show ((((r - n) % ds.length).toNat : Nat) : Int) - 1 = (((r - n) % ds.length).toNat : Int) + -1 by omega, E_congr this, show r - n + -1 = r - 1 - n by omega]
        exact hn, (len_of isL).symm⟩
    have c2 : ((((r - n) % ds.length).toNat : Int) + (n : Int)) % ds.length = r % ds.length := by
      rw [cong n]
      congr 1
      omega
    have g := H _ mem n hLn (by rw [row_congr c2]; exact ht)
    rw [gap_congr c2] at g
    exact nE j (by omega)
end Rg

namespace L2
open PySem PySem.Spec PyProof.Rows
/-! ### len(set(xs)) of any ints -/
def FM (ns : List Int) : List Int := PyProof.Rows.firstMet (fun i => ns.getD i 0) ns.length
def tLenSetA (K : PySem.W.Frag) (ta : TE) : TE := fun σ H Q => ta σ H fun x H1 => ∃ (l : Addr) (ns : List Int), x = .ref l ∧ SqL K H1 l (ns.map V.int) ∧ ns.length ≤ 4000 ∧ Q (.int ((FM ns).length : Nat)) H1
theorem pe_lenSetA {X : Cx} {a : Expr} {ta : TE} {p p2 q pos : Pos} (hg : Gl X "len") (hm : X.mg "len" = none) (hg2 : Gl X "set") (hm2 : X.mg "set" = none) (ha : PE X a ta) (hc : X.calm = true := by rfl)
    (na : starEach [a] X.env = (false, eval a X.env) :: starEach [] X.env := by rfl) : PE X (.Call (.Name "len" p) [.Call (.Name "set" p2) [a] [] q] [] pos) (tLenSetA X.K ta) := by
  refine ⟨fun pins s σ H Q I h => Call_ (ld_blt I hg hm PySem.boot_len ?_)⟩
  refine callWith_builtin1 (args_cons ?_ rfl) rfl rfl
  refine Call_ (ld_blt I hg2 hm2 PyProof.Rows.boot_set ?_)
  refine callWith_type1 (args_cons (thn (ha.run pins s σ H _ I h) fun v s1 ⟨x, H1, I1, r1, q1⟩ => args_nil ?_) na) na rfl
  obtain ⟨l, ns, rfl, hq, hl, q1⟩ := q1
  cases r1
  obtain ⟨its, r, pl, hz⟩ := I1.list hq
  have hlen : its.toArray.size = ns.length := by rw [List.size_toArray, ← r.length, List.length_map]
  refine call_set_list (I1.ok.hd hc) pl.isList (by simpa using RZ.intsAre_vals r) (by rw [hlen]; unfold scanBound; omega) fun h' tk hS hk => args_nil ?_
  rw [hlen] at hS
  have fl : (FM ns).length ≤ ns.length := by
    unfold FM
    have : ∀ i, (PyProof.Rows.firstMet (fun i => ns.getD i 0) i).length ≤ i := fun i => by
      induction i with
      | zero => exact Nat.le_refl _
      | succ i ih =>
        rw [PyProof.Rows.firstMet_succ]
        unfold PyProof.Rows.step_dedup
        split
        · omega
        · simp only [List.length_append, List.length_cons, List.length_nil]; omega
    exact this _
  obtain ⟨o, es, ep, t, ho, hex, hd, _, _, _, hf, hn⟩ := hS
  have I2 : Inv X pins σ H1 { s1 with heap := h', toks := tk } := I1.kept fun b o e => hk b o (Heap.lt_size e) e
  have hn' : es.size = (FM ns).length := hn
  exact call_len_set ho hex hd hf (by rw [hn']; omega) ⟨.int (FM ns).length, H1, I2.tok _, ⟨_, by rw [hn']⟩, q1⟩
theorem fm_nodup (ns : List Int) : ((FM ns).length = ns.length) ↔ ns.Nodup := by
  have key : ∀ i, i ≤ ns.length → ((PyProof.Rows.firstMet (fun i => ns.getD i 0) i).length ≤ i) ∧ ((PyProof.Rows.firstMet (fun i => ns.getD i 0) i).length = i → PyProof.Rows.firstMet (fun i => ns.getD i 0) i = ns.take i ∧ (ns.take i).Nodup) := by
    intro i
    induction i with
    | zero => intro _; exact ⟨Nat.le_refl _, fun _ => ⟨rfl, by simp⟩⟩
    | succ i ih =>
      intro hi
      obtain ⟨h1, h2⟩ := ih (by omega)
      have hlt : i < ns.length := hi
      have e1 : ns.getD i 0 = ns[i] := by rw [List.getD_eq_getElem?_getD, List.getElem?_eq_getElem hlt]; rfl
      rw [PyProof.Rows.firstMet_succ]
      unfold PyProof.Rows.step_dedup
      by_cases c : (PyProof.Rows.firstMet (fun i => ns.getD i 0) i).any (· == ns.getD i 0) = true
      · rw [if_pos c]
        exact ⟨by omega, fun z => by omega⟩
      · rw [if_neg c]
        refine ⟨by simp only [List.length_append, List.length_cons, List.length_nil]; omega, fun z => ?_⟩
        simp only [List.length_append, List.length_cons, List.length_nil] at z
        obtain ⟨e2, nd⟩ := h2 (by omega)
        have e3 : ns.take (i + 1) = ns.take i ++ [ns[i]] := by rw [List.take_add_one, List.getElem?_eq_getElem hlt]; rfl
        rw [e2, e1, e3]
        refine ⟨rfl, List.nodup_append.mpr ⟨nd, by simp, fun a ha b hb => ?_⟩⟩
        rw [List.mem_singleton.mp hb]
        intro e
        refine c ?_
        rw [e2, e1]
        exact List.any_eq_true.mpr ⟨a, ha, by simp [e]⟩
  obtain ⟨_, h⟩ := key ns.length (Nat.le_refl _)
  constructor
  · intro e
    have := (h e).2
    rw [List.take_length] at this
    exact this
  · intro nd
    unfold FM
    rw [RZ.firstMet_nodup nd ns.length (Nat.le_refl _), List.take_length]

/-! ### isinstance of data -/
def tyD : PyData → String
  | .none => "NoneType" | .bool _ => "bool" | .int _ => "int" | .str _ => "str" | .list _ => "list" | .tuple _ => "tuple" | .dict _ => "dict"
theorem dp_ty {K : PySem.W.Frag} {H : Hp} {v : V} {d : PyData} (h : Dp K H v d) : TyX K H v (.type (tyD d)) := by
  cases h with
  | non => exact .base .non
  | bl b => exact .base (.bl b)
  | int i => exact .base (.int i)
  | str x => exact .base (.str x)
  | lst q _ =>
    rcases q with (q | ⟨o, q⟩) | ⟨o, its, n, q, c, _⟩
    · exact .base (.lst q)
    · exact .base (.frz q)
    · exact .kList q c
  | tup q _ =>
    rcases q with (q | ⟨o, q⟩) | ⟨o, its, n, q, c, _⟩
    · exact .base (.tup q)
    · exact .fTuple q
    · exact .kTuple q c
theorem Dp.keep {K : PySem.W.Frag} {H H' : Hp} (s : Same H H') : ∀ {d : PyData} {v : V}, Dp K H v d → Dp K H' v d := by
  have sqT : ∀ {a : Addr} {xs : List V}, SqT K H a xs → SqT K H' a xs := fun {a xs} q => by
    rcases q with (q | ⟨o, q⟩) | q
    · exact .inl (.inl (s _ _ q))
    · exact .inl (.inr ⟨o, s _ _ q⟩)
    · exact .inr q
  intro d v h
  induction h using Dp.rec (motive_2 := fun vs ds _ => DpAll K H' vs ds) with
  | non => exact .non
  | bl b => exact .bl b
  | int i => exact .int i
  | str x => exact .str x
  | lst q _ ih => exact .lst (s.seq q) ih
  | tup q _ ih => exact .tup (sqT q) ih
  | nil => exact .nil
  | cons _ _ ih1 ih2 => exact .cons ih1 ih2
end L2

/-! ## for i, x in enumerate(xs, start=k), k written -/
namespace L2
open PySem PySem.Spec PyProof.Rows
/-- the list at a as it stands at each turn, each item in a new pair, counted from k on -/
def IteS (K : PySem.W.Frag) (a : Addr) (k : Int) : It :=
  ⟨fun i H => ∃ (xs : List V) (x : V), SqL K H a xs ∧ xs[i]? = some x, fun i H v H' => ∃ T x, v = .ref T ∧ H T = none ∧ H' = upd H T (.tup [.int (k + (i : Nat)), x]) ∧ ∀ xs, SqL K H a xs → xs[i]? = some x, fun i H => ∃ xs : List V, SqL K H a xs ∧ xs.length ≤ i⟩
theorem turn_enumS {P : Program} {w : World} {K : PySem.W.Frag} {elts : List Expr} {kk : Nat} {tpos : Pos} (a e it : Addr) (k : Int) :
    Turn P w K (.Tuple elts kk tpos) (IteS K a k) [e, it] e (fun i h => (∃ old, IsEnum h e it (k + ((i : Nat) : Int)) old) ∧ h.IsListIter it a i ∧ e ≠ it) where
  mem := by simp
  obj := fun i h st b hb => by
    obtain ⟨⟨old, he⟩, ⟨o, ho, hc, hd⟩, _⟩ := st
    have e' : b = e ∨ b = it := by simpa using hb
    rcases e' with z | z
    · rw [z]; exact ⟨_, he, fun v q => nomatch q⟩
    · rw [z]; exact ⟨o, ho, fun v q => by rw [hd] at q; cases q⟩
  keep := fun i h h' st k => let ⟨⟨old, he⟩, hi, hne⟩ := st; ⟨⟨old, k e (by simp) _ he⟩, hi.at fun o q => k it (by simp) o q, hne⟩
  item := by
    intro X hP hw hK hc i pins s σ H E I hf st hg
    subst hP hw hK
    obtain ⟨⟨old, he⟩, hit, hne⟩ := st
    obtain ⟨xs, x, hq, hx⟩ := hg
    obtain ⟨its, rv, p, hz⟩ := I.list hq
    obtain ⟨u, hu, ru⟩ := rv.get hx
    have hel : e < s.heap.objs.size := Heap.lt_size he
    have hil : it < s.heap.objs.size := by obtain ⟨_, q, _⟩ := hit; exact Heap.lt_size q
    have hla : a < s.heap.objs.size := by obtain ⟨_, q, _⟩ := p.isList; exact Heap.lt_size q
    have hai : a ≠ it := fun z => by
      obtain ⟨o1, q1, c1, _⟩ := p.isList
      obtain ⟨o2, q2, c2, _⟩ := hit
      rw [z, q2] at q1
      cases q1
      rw [c2] at c1
      exact absurd (Value.type.inj c1) (by decide)
    have hae : e ≠ a := fun z => by
      obtain ⟨o1, q1, c1, _⟩ := p.isList
      have he' : s.heap.get? e = some _ := he
      rw [← z, he'] at q1
      cases q1
      exact absurd (Value.type.inj c1) (by decide)
    refine wpAny_pyNext_enum_itemC (Draws.list (A := X.A.in1) (I.ok.hd hc) it a hai its.toArray) he ⟨hit, p.isList⟩ (by have := (List.getElem?_eq_some_iff.mp hu).1; simpa using this) hne (by simp [hne, hae]) fun y h' tk hy ho hst hT hsz hk => ?_
    obtain rfl : y = u := by
      have hy' : its.toArray[i]? = some y := hy
      rw [show its.toArray[i]? = some u by simpa using hu] at hy'
      exact (Option.some.inj hy').symm
    obtain ⟨hit', _⟩ := hst
    refine ⟨_, rfl, wpAny_letOwnedTupleGo_enum (s := { s with heap := h', toks := tk + 1 }) ho fun h'' he' sb => ?_⟩
    have hT2 : h''.get? s.heap.objs.size = some { cls := .type "tuple", data := .seq #[.int (k + (i : Nat)) tk, y] } := (sb.2 _ (Nat.ne_of_gt hel)).trans hT
    have new : ObjOk X.prog X.w (upd H s.heap.objs.size (.tup [.int (k + (i : Nat)), x])) h'' s.heap.objs.size (.tup [.int (k + (i : Nat)), x]) :=
      ⟨by show 2 ≤ sizeLine; decide, [.int (k + (i : Nat)) tk, y], .cons ⟨_, rfl⟩ (.cons ru .nil), ⟨_, hT2, rfl, _, rfl⟩⟩
    have I1 : Inv X pins σ (upd H s.heap.objs.size (.tup [.int (k + (i : Nat)), x])) { s with heap := h'', toks := tk + 1 } :=
      I.turnedNew (ch := [e, it]) (fun b ob hb q => (sb.2 b (fun z => hb (by simp [z]))).trans (hk b ob (fun z => hb (by simp [z])) (fun z => hb (by simp [z])) q)) hf (Nat.le_refl _) new
    refine ⟨.ref s.heap.objs.size, _, I1, rfl, ⟨_, x, rfl, I.hok.fresh (Nat.le_refl _), rfl, fun ys hy => by rw [I.list_inj hy hq]; exact hx⟩, ⟨⟨y, ?_⟩, hit'.at fun o q => (sb.2 it (Ne.symm hne)).trans q, hne⟩, fun b hb => ?_⟩
    · have e1 : k + ((i + 1 : Nat) : Int) = k + (i : Int) + 1 := by omega
      rw [e1]; exact he'
    · have hb' : b < s.heap.objs.size := by
        have e' : b = e ∨ b = it := by simpa using hb
        rcases e' with z | z
        · rw [z]; exact hel
        · rw [z]; exact hil
      rw [upd_ne (Nat.ne_of_lt hb')]
      exact (hf b hb).1
  done := by
    intro X hP hw hK hc i pins s σ H E I hf st hg
    subst hP hw hK
    obtain ⟨⟨old, he⟩, hit, hne⟩ := st
    obtain ⟨xs, hq, hx⟩ := hg
    obtain ⟨its, rv, p, hz⟩ := I.list hq
    obtain ⟨f0, f1, f2, f3, f4, f5⟩ := hf it (by simp)
    have hl := rv.length
    have hn : its.toArray[i]? = none := by simp; omega
    have hai : a ≠ it := fun z => by
      obtain ⟨o1, q1, c1, _⟩ := p.isList
      obtain ⟨o2, q2, c2, _⟩ := hit
      rw [z, q2] at q1
      cases q1
      rw [c2] at c1
      exact absurd (Value.type.inj c1) (by decide)
    have hd := I.ok.hd hc
    unfold pyNext
    have hT : s.TypeIs (.ref e) "enumerate" := ⟨_, he, rfl⟩
    refine wpAny_bind (wpAny_attempt (wpAny_callSpecial?_slot (name := Str.ofString "__next__") hT F.slot_enumerate_next
      (wpAny_call_entry F.slot_enumerate_next hT F.entry_enumerate_next ?_ (F.args_enumerate_next_1 _))))
    show wpAny _ _ (field (.ref e) 2 >>= _) _ _ _
    refine wpAny_bind (wpAny_field he rfl (x := .ref it) rfl ?_)
    refine wpAny_bind (wpAny_nextOf_list_end hd hit p.isList hn fun h' x eb hx' => ?_)
    obtain ⟨o, ho, hc'⟩ := hx'
    refine wpAny_bind (wpAny_isInstance (T := "StopIteration") (b := true) ⟨o, ho, hc'⟩ isSubtype_stop ?_)
    exact wpAny_pure ⟨rfl, I.turned (t' := s.toks) (fun b o hb q => eb b o hb q) f0 f1 f3 f4 f5⟩
  self := fun A i s Q E st h => let ⟨⟨_, he⟩, _⟩ := st; wpAny_pyIter_enum he h

section
variable {M : Model} {A : Around} {E : Value → Shared → Prop} {s : Shared} {env : Env}
theorem callWith_type_kwB {pos : Pos} {T : String} {first : List Value} {args : List (Bool × Sem Value)} {keywords : List (Option Str × Sem Value)} {Q : Value → Shared → Prop}
    (hplain : args.any (·.1) = false) (hkw : keywords.any (·.1.isNone) = false)
    (h : wpAny M A (evalArgs (.type T) true args keywords) (fun a s₁ => wpAny M A (call (.type T) (first ++ a.pos) a.kw) Q E s₁) E s) :
    wpAny M A (callWith pos (.type T) first args keywords) Q E s := by
  unfold callWith
  refine wpAny_bind (wpAny_holding (wpAny_mono h (fun a s₁ h₁ => wpAny_bind (wpAny_standAt ?_)) fun _ _ x => x))
  simp only [hplain, hkw, Bool.or_false]
  refine wpAny_bind (wpAny_pure ?_)
  exact wpAny_bind (wpAny_mono h₁ (fun r s₂ hr => wpAny_bind (wpAny_holding (wpAny_point (wpAny_pure hr)))) fun _ _ x => x)
theorem callWith_typeK {pos : Pos} {T : String} {e : Expr} {rest : List Expr} {kws : List Keyword} {Q : Value → Shared → Prop}
    (h : wpAny M A (spliced (backTo pos (starEach (e :: rest) env))) (fun vs s₁ => wpAny M A (evalAll ((backToKw pos (keywordEach kws env)).map (·.2)))
      (fun kvs s₂ => wpAny M A (call (.type T) vs (((backToKw pos (keywordEach kws env)).filterMap (·.1)).zip kvs)) Q E s₂) E s₁) E s)
    (he : backTo pos (starEach (e :: rest) env) = (false, eval e env) :: backTo pos (starEach rest env) := by rfl)
    (hplain : (backTo pos (starEach (e :: rest) env)).any (·.1) = false := by rfl)
    (hall : (backToKw pos (keywordEach kws env)).all (·.1.isSome) = true := by rfl)
    (hkw : (backToKw pos (keywordEach kws env)).any (·.1.isNone) = false := by rfl) :
    wpAny M A (callWith pos (.type T) [] (backTo pos (starEach (e :: rest) env)) (backToKw pos (keywordEach kws env))) Q E s := by
  refine callWith_type_kwB hplain hkw ?_
  rw [he] at h ⊢
  exact evalArgs_kwB hall h
end
def iEnumS (K : PySem.W.Frag) (k : Int) (ta : TA) : TI := fun σ H R => ta σ H fun vs H1 => ∃ a xs, vs = [.ref a] ∧ SqL K H1 a xs ∧ R (IteS K a k) H1
theorem pi_enumS {X : Cx} {e : Expr} {ta : TA} {p pos tpos kp cp : Pos} {elts : List Expr} {kk : Nat} {k : Int} (hk0 : -(2 ^ 63) ≤ k) (hk1 : k < 2 ^ 63) (hg : Gl X "enumerate") (hm : X.mg "enumerate" = none) (ha : PA X [e] ta) (hs : starEach [e] X.env = [(false, eval e X.env)] := by rfl) :
    PI X (.Tuple elts kk tpos) (.Call (.Name "enumerate" p) [e] [⟨some "start", .Constant (.int k) 0 cp, kp⟩] pos) (iEnumS X.K k ta) := by
  refine ⟨fun pins s σ H R I h => ?_⟩
  refine wpAny_Call_Name_kw (ld_blt I hg hm boot_enumerate ?_)
  refine callWith_typeK (e := e) (rest := []) (kws := [⟨some "start", .Constant (.int k) 0 cp, kp⟩]) (thn (ha.run pos pins s σ H _ I h) fun us s1 ⟨vs, H1, I1, r1, q1⟩ => ?_) (by rw [hs]; rfl) (by rw [hs]; rfl) rfl rfl
  obtain ⟨a, xs, ex, hq, q⟩ := q1
  subst ex
  refine kws_cons (wpAny_Constant_int (kws_nil ?_))
  cases r1 with
  | cons r rr =>
    cases rr
    cases r
    obtain ⟨its, rv, p', hz⟩ := I1.list hq
    refine enum_begins_start (begins_list a its.toArray) p'.isList hk0 hk1 fun h' he hit hsz hkk => wpAny_pyIter_enum he ?_
    have I2 : Inv X pins σ H1 { s1 with heap := h', toks := s1.toks + 1 } := I1.kept (t' := s1.toks + 1) hkk
    refine ⟨s1.heap.objs.size + 1, [s1.heap.objs.size + 1, s1.heap.objs.size], _, _, H1, rfl, I2, turn_enumS a (s1.heap.objs.size + 1) s1.heap.objs.size k, ⟨⟨.none, by simpa using he⟩, ⟨_, hit, rfl, rfl⟩, Nat.succ_ne_self _⟩, fun b hb => ?_, q⟩
    have e' : b = s1.heap.objs.size + 1 ∨ b = s1.heap.objs.size := by simpa using hb
    have hle : s1.heap.objs.size ≤ b := by
      rcases e' with z | z
      · rw [z]; exact Nat.le_add_right _ _
      · rw [z]; exact Nat.le_refl _
    exact I1.fpOk hle (I1.hok.fresh hle)
end L2

/-! ## x in D, D a dict of the top with texts as keys; list(zip(xs, ys)) -/
namespace L2
open PySem PySem.Spec PyProof.Rows
/-- what a dict of the top says of a text -/
def KHas (K : PySem.W.Frag) (w : World) (a : Addr) (x : Str) (r : Option V) : Prop :=
  ∃ es n o, K.lookup a = some ⟨.type "dict", none, .dict es n, #[]⟩ ∧ PySem.W.KeysLit w.params es.toList ∧ (a == sysModules) = false ∧ PySem.W.nsIn K a x = some o ∧ RelO r o
def rInKD (K : PySem.W.Frag) (w : World) : R2 := fun x y H Q => ∃ p z r, x = .str z ∧ y = .ref p ∧ KHas K w p z r ∧ Q (.bl r.isSome) H
theorem RelO.isSome {r : Option V} {o : Option Value} (h : RelO r o) : r.isSome = o.isSome := by
  cases r <;> cases o <;> first | rfl | exact h.elim
theorem KHas.dct {K : PySem.W.Frag} {w : World} {a : Addr} {x : Str} {v : V} (h : KHas K w a x (some v)) : KDct K w a x v := by
  obtain ⟨es, n, o, h1, h2, h3, h4, h5⟩ := h
  cases o with
  | none => exact h5.elim
  | some u => exact ⟨es, n, u, h1, h2, h4, h5⟩
theorem op_inKD {X : Cx} : OpR X (compareOp .In) (rInKD X.K X.w) := by
  intro pins s σ H x y v u Q I rx ry h
  obtain ⟨p, z, r, rfl, rfl, ⟨es, n, o, hl, hk, hs, e, ro⟩, q⟩ := h
  obtain rfl : u = Value.ref p := ry
  obtain ⟨t, rfl⟩ := rx
  have hm := PySem.W.mapOf_K (prog := X.prog) (w := X.w) I.kIn hl hk
  refine wpAny_in_of (strKind_is X.prog X.w z t) hs hm ?_
  rw [PySem.W.find_K hl e, ← ro.isSome]
  exact ⟨.bl r.isSome, H, I.tok _, rfl, q⟩
end L2

/-! ## list(zip(xs, ys)) of two lists -/
namespace ListZip
open PySem PySem.Spec PyProof.Rows
theorem zip_no_len : typeLookup (.type "zip") "__len__" = pure none := am_miss_of_fast (by decide +kernel)
theorem zip_no_hint : typeLookup (.type "zip") "__length_hint__" = pure none := am_miss_of_fast (by decide +kernel)
/-- a zip that has given i pairs -/
def ZSt (z TI TO i1 i2 l1 l2 S : Addr) (xs ys : Array Value) (i : Nat) (h : Heap) : Prop :=
  IsPair h TI (.ref i1) (.ref i2) ∧ h.IsListIter i1 l1 i ∧ h.IsListIter i2 l2 i ∧ h.IsList l1 xs ∧ h.IsList l2 ys ∧
  ((IsZip h z TI TO .none ∧ ∃ a b, IsPair h TO a b) ∨ ∃ T f oT, IsZipHeld h z TI TO T f ∧ h.get? T = some oT ∧ T ≠ z ∧ T ≠ i1 ∧ T ≠ i2 ∧ T ≠ S)
/-- the pairs that were collected -/
def Acc (z TO i1 i2 S : Addr) (b0 : Nat) (xs ys : Array Value) (i : Nat) (acc : Array Value) (h : Heap) : Prop :=
  acc.size = i ∧ ∀ j, j < i → ∃ T x y, acc[j]? = some (.ref T) ∧ xs[j]? = some x ∧ ys[j]? = some y ∧ IsPair h T x y ∧ T ≠ z ∧ T ≠ TO ∧ T ≠ i1 ∧ T ≠ i2 ∧ T ≠ S ∧ b0 ≤ T
section
variable {prog : Program} {w : World} {A : Around} {s : Shared} {R : Result → Shared → Prop} {z TI TO i1 i2 l1 l2 S : Addr} {b0 : Nat} {xs ys : Array Value}
theorem ZSt.keep {i : Nat} {h h' : Heap} (x : ZSt z TI TO i1 i2 l1 l2 S xs ys i h) (k : ∀ b o, b ≠ S → h.get? b = some o → h'.get? b = some o) (n1 : TI ≠ S) (n2 : TO ≠ S) (n3 : i1 ≠ S) (n4 : i2 ≠ S) (n5 : l1 ≠ S) (n6 : l2 ≠ S) (n7 : z ≠ S) : ZSt z TI TO i1 i2 l1 l2 S xs ys i h' := by
  obtain ⟨hTI, h1, h2, hl1, hl2, hz⟩ := x
  refine ⟨k _ _ n1 hTI, h1.at fun o e => k _ o n3 e, h2.at fun o e => k _ o n4 e, hl1.at fun o e => k _ o n5 e, hl2.at fun o e => k _ o n6 e, ?_⟩
  rcases hz with ⟨hz, a, b, hTO⟩ | ⟨T, f, oT, hz, hT, r1, r2, r3, r4⟩
  · exact .inl ⟨k _ _ n7 hz, a, b, k _ _ n2 hTO⟩
  · exact .inr ⟨T, f, oT, k _ _ n7 hz, k _ _ r4 hT, r1, r2, r3, r4⟩
theorem Acc.keep {i : Nat} {acc : Array Value} {h h' : Heap} (x : Acc z TO i1 i2 S b0 xs ys i acc h) (k : ∀ b o, b ≠ z → b ≠ TO → b ≠ i1 → b ≠ i2 → b ≠ S → h.get? b = some o → h'.get? b = some o) : Acc z TO i1 i2 S b0 xs ys i acc h' :=
  ⟨x.1, fun j hj => let ⟨T, a, b, e1, e2, e3, e4, r1, r2, r3, r4, r5, r6⟩ := x.2 j hj; ⟨T, a, b, e1, e2, e3, k _ _ r1 r2 r3 r4 r5 e4, r1, r2, r3, r4, r5, r6⟩⟩
theorem loop (hh : A.handled = none) (D : ZipApart z TI TO i1 i2 l1 l2) (n1 : TI ≠ S) (n2 : TO ≠ S) (n3 : i1 ≠ S) (n4 : i2 ≠ S) (n5 : l1 ≠ S) (n6 : l2 ≠ S) (n7 : z ≠ S) (n8 : TO < b0) (hsz : xs.size = ys.size) (hn : xs.size ≤ sizeLine) (res : Value) :
    ∀ (k i : Nat) (s : Shared) (acc : Array Value) (c : Nat), xs.size - i = k → i ≤ xs.size → b0 ≤ s.heap.objs.size → ZSt z TI TO i1 i2 l1 l2 S xs ys i s.heap → s.heap.get? S = some { cls := .type "list", dict := none, data := .seq acc c, slots := #[] } → Acc z TO i1 i2 S b0 xs ys i acc s.heap →
    (∀ h' acc' c', (∀ b o, b ≠ z → b ≠ TO → b ≠ i1 → b ≠ i2 → b ≠ S → s.heap.get? b = some o → h'.get? b = some o) → h'.get? S = some { cls := .type "list", dict := none, data := .seq acc' c', slots := #[] } → Acc z TO i1 i2 S b0 xs ys xs.size acc' h' → R (.ok (.ret res)) { s with heap := h' }) →
    codeAny (model prog w) A (.builtin "list.extend.loop" ⟨[.ref S, .ref z, res], []⟩) R s := by
  intro k
  induction k with
  | zero =>
    intro i s acc c hk hi hb hst hS hacc hR
    have hin : i = xs.size := by omega
    subst hin
    refine codeAny_builtin F.entry_extend_loop ?_
    rw [Around.under_plainId F.plain_extend_loop _]
    show wpAny _ A.in1 (pyNext (.ref z) >>= _) _ _ s
    obtain ⟨hTI, h1, h2, hl1, hl2, hz⟩ := hst
    have hend : xs[xs.size]? = none ∨ ys[xs.size]? = none := .inl (Array.getElem?_eq_none (Nat.le_refl _))
    rcases hz with ⟨hz, a, b, hTO⟩ | ⟨T, f, oT, hz, hT, r1, r2, r3, r4⟩
    · refine wpAny_bind (wpAny_pyNext_zip_end hh D hz hTI hTO h1 h2 hl1 hl2 hend fun h' hk => ?_)
      exact wpAny_pure (hR h' acc c (fun b o q1 q2 q3 q4 q5 e => hk b o q1 q2 q3 q4 e) (hk _ _ n7.symm n2.symm n3.symm n4.symm hS) (hacc.keep fun b o q1 q2 q3 q4 q5 e => hk b o q1 q2 q3 q4 e))
    · refine wpAny_bind (wpAny_pyNext_zip_end_held hh D hz hT hTI h1 h2 hl1 hl2 hend fun h' hk => ?_)
      exact wpAny_pure (hR h' acc c (fun b o q1 q2 q3 q4 q5 e => hk b o q1 q3 q4 e) (hk _ _ n7.symm n3.symm n4.symm hS) (hacc.keep fun b o q1 q2 q3 q4 q5 e => hk b o q1 q3 q4 e))
  | succ k ih =>
    intro i s acc c hk hi hb hst hS hacc hR
    have hix : i < xs.size := by omega
    have hiy : i < ys.size := by omega
    have ex := Array.getElem?_eq_getElem hix
    have ey := Array.getElem?_eq_getElem hiy
    refine codeAny_builtin F.entry_extend_loop ?_
    rw [Around.under_plainId F.plain_extend_loop _]
    show wpAny _ A.in1 (pyNext (.ref z) >>= _) _ _ s
    have key : ∀ (h' : Heap), (∀ b o, b ≠ z → b ≠ TO → b ≠ i1 → b ≠ i2 → s.heap.get? b = some o → h'.get? b = some o) → ZSt z TI TO i1 i2 l1 l2 S xs ys (i + 1) h' → IsPair h' s.heap.objs.size xs[i] ys[i] → h'.objs.size = s.heap.objs.size + 1 →
        s.heap.objs.size ≠ z → s.heap.objs.size ≠ TO → s.heap.objs.size ≠ i1 → s.heap.objs.size ≠ i2 → s.heap.objs.size ≠ S →
        wpAny (model prog w) A.in1 (updateSeq S (·.push (.ref s.heap.objs.size)) >>= fun _ => again (.builtin "list.extend.loop" ⟨[.ref S, .ref z, res], []⟩))
          (fun fin s' => match fin with | .done f => R (.ok f) s' | .again c' => c'.quiet = true ∧ codeAny (model prog w) A c' R s') (fun e s' => R (.error e) s') { s with heap := h' } := by
      intro h' hk' st' hp hs' m1 m2 m3 m4 m5
      have hS' := hk' S _ n7.symm n2.symm n3.symm n4.symm hS
      refine wpAny_bind ?_
      have oth : ∀ b o, b ≠ S → h'.get? b = some o → (h'.update S (Obj.mapSeq (·.push (.ref s.heap.objs.size)))).get? b = some o := fun b o hb e => (Heap.get?_update_other _ _ (Ne.symm hb)).trans e
      refine wpAny_updateSeq hS' rfl (wpAny_pure ⟨plainId_quiet F.plain_extend_loop _, ih (i + 1) _ (acc.push (.ref s.heap.objs.size)) _ (by omega) hix (by show b0 ≤ (h'.update S _).objs.size; rw [Heap.size_update, hs']; omega) (st'.keep oth n1 n2 n3 n4 n5 n6 n7) (Heap.get?_update_self _ hS' rfl) ⟨by rw [Array.size_push, hacc.1], fun j hj => ?_⟩ fun h'' acc' c' hm hS'' ha => ?_⟩)
        (by rw [hacc.1]; omega) (by show (acc.push _).size ≤ sizeLine + 1; rw [Array.size_push, hacc.1]; omega)
      · rcases Nat.lt_or_ge j i with q | q
        · obtain ⟨T, a, b, e1, e2, e3, e4, r1, r2, r3, r4, r5, r6⟩ := hacc.2 j q
          refine ⟨T, a, b, ?_, e2, e3, oth _ _ r5 (hk' _ _ r1 r2 r3 r4 e4), r1, r2, r3, r4, r5, r6⟩
          rw [Array.getElem?_push, if_neg (by rw [hacc.1]; omega)]
          exact e1
        · obtain rfl : j = i := by omega
          refine ⟨s.heap.objs.size, _, _, ?_, ex, ey, oth _ _ m5 hp, m1, m2, m3, m4, m5, hb⟩
          rw [Array.getElem?_push, if_pos hacc.1.symm]
      · exact hR h'' acc' c' (fun b o q1 q2 q3 q4 q5 e => hm b o q1 q2 q3 q4 q5 (oth b o q5 (hk' b o q1 q2 q3 q4 e))) hS'' ha
    obtain ⟨hTI, h1, h2, hl1, hl2, hz⟩ := hst
    have lt : ∀ {c o}, s.heap.get? c = some o → s.heap.objs.size ≠ c := fun e => Nat.ne_of_gt (Heap.lt_size e)
    have m1 : s.heap.objs.size ≠ i1 := let ⟨_, e, _⟩ := h1; lt e
    have m2 : s.heap.objs.size ≠ i2 := let ⟨_, e, _⟩ := h2; lt e
    rcases hz with ⟨hz, a, b, hTO⟩ | ⟨T, f, oT, hz, hT, r1, r2, r3, r4⟩
    · refine wpAny_bind (wpAny_pyNext_zip_item D hz hTI hTO h1 h2 hl1 hl2 ex ey fun h' a1 a2 a3 a4 a5 a6 hk => ?_)
      refine key h' hk ⟨hk _ _ D.TIz D.TITO D.TIi1 D.TIi2 hTI, a3, a4, hl1.at fun o e => hk _ o D.l1z D.l1TO D.l1i1 D.l1i2 e, hl2.at fun o e => hk _ o D.l2z D.l2TO D.l2i1 D.l2i2 e, .inr ⟨s.heap.objs.size, false, _, a1, a5, lt hz, m1, m2, lt hS⟩⟩ a5 ?_ (lt hz) (lt hTO) m1 m2 (lt hS)
      exact a6
    · have m3 : s.heap.objs.size ≠ TO := fun e => by rw [← e] at n8; exact absurd (Nat.lt_of_lt_of_le n8 hb) (Nat.lt_irrefl _)
      refine wpAny_bind (wpAny_pyNext_zip_item_held D hz hT hTI h1 h2 hl1 hl2 ex ey fun h' a1 a3 a4 a5 a6 hk => ?_)
      exact key h' (fun b o q1 q2 q3 q4 e => hk b o q1 q3 q4 e) ⟨hk _ _ D.TIz D.TIi1 D.TIi2 hTI, a3, a4, hl1.at fun o e => hk _ o D.l1z D.l1i1 D.l1i2 e, hl2.at fun o e => hk _ o D.l2z D.l2i1 D.l2i2 e, .inr ⟨T, true, oT, a1, hk _ _ r1 r2 r3 hT, r1, r2, r3, r4⟩⟩ a5 a6 (lt hz) m3 m1 m2 (lt hS)
theorem init (hh : A.handled = none) (D : ZipApart z TI TO i1 i2 l1 l2) (n1 : TI ≠ S) (n2 : TO ≠ S) (n3 : i1 ≠ S) (n4 : i2 ≠ S) (n5 : l1 ≠ S) (n6 : l2 ≠ S) (n7 : z ≠ S) (n8 : TO < b0) (hsz : xs.size = ys.size) (hn : xs.size ≤ sizeLine) (hb : b0 ≤ s.heap.objs.size)
    (hz : IsZip s.heap z TI TO .none) (hTI : IsPair s.heap TI (.ref i1) (.ref i2)) (hTO : ∃ a b, IsPair s.heap TO a b) (h1 : s.heap.IsListIter i1 l1 0) (h2 : s.heap.IsListIter i2 l2 0) (hl1 : s.heap.IsList l1 xs) (hl2 : s.heap.IsList l2 ys)
    (hS : s.heap.get? S = some { cls := .type "list", data := .seq #[] })
    (hR : ∀ h' acc' c', (∀ b o, b ≠ z → b ≠ TO → b ≠ i1 → b ≠ i2 → b ≠ S → s.heap.get? b = some o → h'.get? b = some o) → h'.get? S = some { cls := .type "list", dict := none, data := .seq acc' c', slots := #[] } → Acc z TO i1 i2 S b0 xs ys xs.size acc' h' → R (.ok (.ret .none)) { s with heap := h' }) :
    wpAny (model prog w) A.in1 (Builtin.«list.__init__» ⟨[.ref S, .ref z], []⟩)
      (fun fin s' => match fin with | .done f => R (.ok f) s' | .again c' => c'.quiet = true ∧ codeAny (model prog w) A c' R s') (fun e s' => R (.error e) s') s := by
  show wpAny _ A.in1 (do let old ← Builtin.List.listItems (.ref S); Builtin.List.listUpdate (.ref S) (fun _ => #[]); letGo old.toList.reverse; Builtin.List.listExtendWith (.ref S) (.ref z) .none) _ _ s
  refine wpAny_bind ?_
  unfold Builtin.List.listItems
  refine wpAny_bind (wpAny_seqItems hS rfl (wpAny_pure ?_))
  show wpAny _ A.in1 (updateSeq S (fun _ => #[]) >>= fun _ => letGo (#[] : Array Value).toList.reverse >>= fun _ => Builtin.List.listExtendWith (.ref S) (.ref z) .none) _ _ s
  refine wpAny_bind (wpAny_updateSeq hS rfl ?_)
  have hS2 := Heap.get?_update_self (Obj.mapSeq (fun _ => (#[] : Array Value))) hS rfl
  have oth0 : ∀ b o, b ≠ S → s.heap.get? b = some o → (s.heap.update S (Obj.mapSeq (fun _ => (#[] : Array Value)))).get? b = some o :=
    fun b o hb e => (Heap.get?_update_other _ _ (Ne.symm hb)).trans e
  refine wpAny_bind (wpAny_letGo ?_)
  have hz' := oth0 _ _ n7 hz
  have hT : ({ s with heap := s.heap.update S (Obj.mapSeq (fun _ => (#[] : Array Value))) } : Shared).TypeIs (.ref z) "zip" := ⟨_, hz', rfl⟩
  unfold Builtin.List.listExtendWith
  refine wpAny_bind (wpAny_typeOf hT ?_)
  have e1 : Builtin.List.listSameRef (.ref S) (.ref z) = false := by simp [Builtin.List.listSameRef, n7.symm]
  have e2 : (Value.type "zip" == Value.type "list") = false := by decide
  have e3 : (Value.type "zip" == Value.type "tuple") = false := by decide
  simp only [e1, e2, e3, Bool.or_false, Bool.false_eq_true, if_false]
  refine wpAny_bind (wpAny_pyIter_zip hz' ?_)
  refine wpAny_bind (wpAny_holding ?_)
  unfold Builtin.List.listLengthHint
  refine wpAny_bind (wpAny_specialOf hT zip_no_len ?_)
  show wpAny _ A.in1 (specialOf (Value.ref z) (Str.ofString "__length_hint__") >>= _) _ _ _
  refine wpAny_bind (wpAny_specialOf hT zip_no_hint ?_)
  refine wpAny_pure ?_
  show wpAny _ A.in1 (rule "list.extend.makes-room" >>= fun _ => Builtin.List.listTouch (.ref S) >>= fun _ =>
    again (.builtin "list.extend.loop" ⟨[.ref S, .ref z, .none], []⟩)) _ _ _
  refine wpAny_bind (wpAny_rule ?_)
  refine wpAny_bind ?_
  show wpAny _ A.in1 (updateSeq S (·.push .none) >>= fun _ => updateSeq S (·.pop)) _ _ _
  refine wpAny_bind (wpAny_updateSeq hS2 rfl ?_)
  have hS3 := Heap.get?_update_self (Obj.mapSeq (·.push Value.none)) hS2 rfl
  refine wpAny_updateSeq (hz := by seq_fits) hS3 rfl ?_
  have hS4 := Heap.get?_update_self (Obj.mapSeq (·.pop)) hS3 rfl
  have oth : ∀ b o, b ≠ S → s.heap.get? b = some o → (((s.heap.update S (Obj.mapSeq (fun _ => (#[] : Array Value)))).update S (Obj.mapSeq (·.push Value.none))).update S (Obj.mapSeq (·.pop))).get? b = some o :=
    fun b o hb e => (Heap.get?_update_other _ _ (Ne.symm hb)).trans ((Heap.get?_update_other _ _ (Ne.symm hb)).trans (oth0 b o hb e))
  have st0 : ZSt z TI TO i1 i2 l1 l2 S xs ys 0 s.heap := ⟨hTI, h1, h2, hl1, hl2, .inl ⟨hz, hTO⟩⟩
  refine wpAny_pure ⟨plainId_quiet F.plain_extend_loop _, loop hh D n1 n2 n3 n4 n5 n6 n7 n8 hsz hn _ xs.size 0 _ _ _ rfl (Nat.zero_le _) (by show b0 ≤ Array.size _; simpa [Heap.size_update] using hb) (st0.keep oth n1 n2 n3 n4 n5 n6 n7) hS4 ⟨rfl, fun j hj => absurd hj (Nat.not_lt_zero j)⟩ fun h' acc' c' hm hS' ha => ?_⟩
  exact hR h' acc' c' (fun b o q1 q2 q3 q4 q5 e => hm b o q1 q2 q3 q4 q5 (oth b o q5 e)) hS' ha
end
end ListZip

namespace L2
open PySem PySem.Spec PyProof.Rows ListZip
/-- list(zip(xs, ys)): a new list p of new pairs -/
def tListZip (K : PySem.W.Frag) (ta : TA) : TE := fun σ H Q => ta σ H fun vs H1 => ∃ a b xs ys, vs = [.ref a, .ref b] ∧ SqL K H1 a xs ∧ SqL K H1 b ys ∧ xs.length = ys.length ∧
  ∀ (p : Addr) (Ts : List Addr) (H' : Hp), H1 p = none → Same H1 H' → H' p = some (.lst (Ts.map V.ref)) → Ts.length = xs.length →
    (∀ (j : Nat) (t : Addr) (x y : V), Ts[j]? = some t → xs[j]? = some x → ys[j]? = some y → H1 t = none ∧ t ≠ p ∧ H' t = some (.tup [x, y])) → Q (.ref p) H'
theorem boot_listT : bootBuiltins "list" = some (.type "list") := by decide +kernel
open Classical in
theorem pe_listZip {X : Cx} {e e2 : Expr} {ta : TA} {p p2 q pos : Pos} (hgl : Gl X "list") (hml : X.mg "list" = none) (hg : Gl X "zip") (hm : X.mg "zip" = none) (ha : PA X [e, e2] ta) (hc : X.calm = true := by rfl)
    (hs : starEach [e, e2] X.env = (false, eval e X.env) :: starEach [e2] X.env := by rfl) (hpl : (backTo q (starEach [e2] X.env)).any (·.1) = false := by rfl)
    (na : starEach [.Call (.Name "zip" p2) [e, e2] [] q] X.env = (false, eval (.Call (.Name "zip" p2) [e, e2] [] q) X.env) :: starEach [] X.env := by rfl) :
    PE X (.Call (.Name "list" p) [.Call (.Name "zip" p2) [e, e2] [] q] [] pos) (tListZip X.K ta) := by
  refine ⟨fun pins s σ H Q I h => Call_ (ld_blt I hgl hml boot_listT ?_)⟩
  refine callWith_type1 (args_cons ?_ rfl) na rfl
  refine Call_ (ld_blt I hg hm PyProof.Rows.boot_zip (PyProof.Rows.callWith_type1 (thn (ha.run q pins s σ H _ I h) fun us s1 ⟨vs, H1, I1, r1, q1⟩ => ?_) hs hpl))
  obtain ⟨a, b, xs, ys, ex, hqx, hqy, hlen, k⟩ := q1
  subst ex
  cases r1 with
  | cons r rr =>
    cases rr with
    | cons r' rr =>
      cases rr
      cases r
      cases r'
      obtain ⟨its, rv, p1, hz1⟩ := I1.list hqx
      obtain ⟨its2, rv2, p2, hz2⟩ := I1.list hqy
      have la : Nat.lt a s1.heap.objs.size := p1.lt
      have lb : Nat.lt b s1.heap.objs.size := p2.lt
      refine call_zip_2 p1.isList p2.isList fun h' hz hTI hTO h1 h2 hsz hk => args_nil ?_
      have D := PySem.W.ktu_apart s1.heap.objs.size a b la lb
      have hsz' : h'.objs.size = s1.heap.objs.size + 5 := hsz
      have psh : ∀ {c o}, h'.get? c = some o → (h'.push { cls := .type "list", data := .seq #[] }).get? c = some o := fun e => Heap.get?_push_of_some _ e
      have ne5 : ∀ c : Nat, c < s1.heap.objs.size + 5 → c ≠ h'.objs.size := fun c hc => by rw [hsz']; omega
      have lt5 : ∀ c : Nat, c < s1.heap.objs.size → ∀ k : Nat, c ≠ s1.heap.objs.size + k := fun c hc k => by omega
      have lt6 : ∀ c : Nat, c < s1.heap.objs.size → c < s1.heap.objs.size + 5 := fun c hc => by omega
      refine callType_codes (Q₁ := fun obj s₁ => obj = .ref h'.objs.size ∧ s₁ = { s1 with heap := h'.push { cls := .type "list", data := .seq #[] } }) F.called_list (F.typeCall_list_1 _) F.entry_list_init
        (code_list_new (s := { s1 with heap := h' }) _ ⟨rfl, rfl⟩) fun obj s₁ e₁ => ?_
      obtain ⟨rfl, rfl⟩ := e₁
      have hS : (h'.push { cls := .type "list", data := .seq #[] }).get? h'.objs.size = some { cls := .type "list", data := .seq #[] } := Heap.get?_push_size _ rfl
      have xl := rv.length
      have yl := rv2.length
      refine ⟨⟨_, hS, rfl⟩, F.args_list_init_2 _ _, ListZip.init (s := { s1 with heap := h'.push { cls := .type "list", data := .seq #[] } }) (I1.ok.hd hc) D (ne5 _ (by omega)) (ne5 _ (by omega)) (ne5 _ (by omega)) (ne5 _ (by omega)) (ne5 _ (lt6 _ la)) (ne5 _ (lt6 _ lb)) (ne5 _ (by omega))
        (b0 := s1.heap.objs.size + 5) (Nat.add_lt_add_left (by decide) _) (xs := its.toArray) (ys := its2.toArray) (by simp; omega) (by simp; omega) (by show _ ≤ (h'.push _).objs.size; rw [Heap.size_push, hsz']; omega) (psh hz) (psh hTI) ⟨_, _, psh hTO⟩ (h1.at fun _ e => psh e) (h2.at fun _ e => psh e) (p1.isList.at fun _ e => psh (hk _ _ e)) (p2.isList.at fun _ e => psh (hk _ _ e)) hS fun h2' acc' c' hm' hS' hacc => ⟨rfl, ?_⟩⟩
      -- the heap behind
      have old : ∀ c o, s1.heap.get? c = some o → h2'.get? c = some o := fun c o e => by
        have hl : Nat.lt c s1.heap.objs.size := Heap.lt_size e
        exact hm' c o (lt5 c hl 4) (lt5 c hl 3) (lt5 c hl 0) (lt5 c hl 1) (ne5 c (lt6 c hl)) (psh (hk c o e))
      obtain ⟨hsa, hT⟩ := hacc
      have hsa' : acc'.size = xs.length := by rw [hsa]; simp; omega
      have hT' : ∀ j, j < xs.length → ∃ (T : Nat) (x y : Value), acc'[j]? = some (.ref T) ∧ its[j]? = some x ∧ its2[j]? = some y ∧ h2'.get? T = some { cls := .type "tuple", data := .seq #[x, y] } ∧ T ≠ h'.objs.size ∧ s1.heap.objs.size + 5 ≤ T := fun j hj => by
        obtain ⟨T, x, y, g1, g2, g3, g4, r1, r2, r3, r4, r5, r6⟩ := hT j (by simp; omega)
        exact ⟨T, x, y, g1, by simpa using g2, by simpa using g3, g4, r5, r6⟩
      have ref : ∀ u ∈ acc'.toList, ∃ T : Nat, u = .ref T := fun u hu => by
        obtain ⟨j, hj, e⟩ := List.getElem_of_mem hu
        obtain ⟨T, x, y, g1, _⟩ := hT' j (by rw [← hsa']; simpa using hj)
        rw [← Array.getElem?_toList, List.getElem?_eq_getElem hj, e] at g1
        exact ⟨T, Option.some.inj g1⟩
      obtain ⟨Ts, hTs⟩ : ∃ Ts : List Addr, acc'.toList = Ts.map Value.ref := by
        generalize acc'.toList = l at ref
        induction l with
        | nil => exact ⟨[], rfl⟩
        | cons u r ih =>
          obtain ⟨T, rfl⟩ := ref u List.mem_cons_self
          obtain ⟨Ts, e⟩ := ih fun v hv => ref v (List.mem_cons_of_mem _ hv)
          exact ⟨T :: Ts, by rw [e]; rfl⟩
      have hTl : Ts.length = xs.length := by
        have := congrArg List.length hTs
        rw [List.length_map] at this
        rw [← this, ← hsa']
        simp
      have at_ : ∀ (j : Nat) (t : Addr), Ts[j]? = some t → ∃ (x y : Value), its[j]? = some x ∧ its2[j]? = some y ∧ h2'.get? t = some { cls := .type "tuple", data := .seq #[x, y] } ∧ t ≠ h'.objs.size ∧ Nat.le (s1.heap.objs.size + 5) t := fun j t ht => by
        have hj : j < xs.length := by rw [← hTl]; exact (List.getElem?_eq_some_iff.mp ht).1
        obtain ⟨T, x, y, g1, g2, g3, g4, g5, g6⟩ := hT' j hj
        rw [← Array.getElem?_toList, hTs, List.getElem?_map, ht] at g1
        cases Option.some.inj g1
        exact ⟨x, y, g2, g3, g4, g5, g6⟩
      have uq : ∀ (j j' : Nat) (t : Addr) (x y x' y' : V), Ts[j]? = some t → xs[j]? = some x → ys[j]? = some y → Ts[j']? = some t → xs[j']? = some x' → ys[j']? = some y' → x = x' ∧ y = y' := fun j j' t x y x' y' e1 e2 e3 e4 e5 e6 => by
        obtain ⟨u, v, g1, g2, g3, _⟩ := at_ j t e1
        obtain ⟨u', v', f1, f2, f3, _⟩ := at_ j' t e4
        rw [g3] at f3
        have ea : (#[u, v] : Array Value) = #[u', v'] := by injection (Option.some.inj f3) with _ _ z; injection z
        have el : [u, v] = [u', v'] := congrArg Array.toList ea
        injection el with eu el
        injection el with ev _
        subst eu; subst ev
        obtain ⟨w1, a1, b1⟩ := rv.get e2
        obtain ⟨w2, a2, b2⟩ := rv2.get e3
        obtain ⟨w3, a3, b3⟩ := rv.get e5
        obtain ⟨w4, a4, b4⟩ := rv2.get e6
        rw [g1] at a1; cases a1
        rw [g2] at a2; cases a2
        rw [f1] at a3; cases a3
        rw [f2] at a4; cases a4
        exact ⟨Option.some.inj (b1.abs.symm.trans b3.abs), Option.some.inj (b2.abs.symm.trans b4.abs)⟩
      let Pr : Addr → V → V → Prop := fun t x y => ∃ j : Nat, Ts[j]? = some t ∧ xs[j]? = some x ∧ ys[j]? = some y
      let H2 : Hp := fun t => if t = h'.objs.size then some (.lst (Ts.map V.ref)) else if h : ∃ xy : V × V, Pr t xy.1 xy.2 then some (.tup [(Classical.choose h).1, (Classical.choose h).2]) else H1 t
      have H2S : H2 h'.objs.size = some (.lst (Ts.map V.ref)) := if_pos rfl
      have H2T : ∀ (t : Addr) (x y : V), t ≠ h'.objs.size → Pr t x y → H2 t = some (.tup [x, y]) := fun t x y n pr => by
        have h : ∃ xy : V × V, Pr t xy.1 xy.2 := ⟨(x, y), pr⟩
        show (if t = h'.objs.size then some (HO.lst (Ts.map V.ref)) else if h : ∃ xy : V × V, Pr t xy.1 xy.2 then some (.tup [(Classical.choose h).1, (Classical.choose h).2]) else H1 t) = _
        rw [if_neg n, dif_pos h]
        obtain ⟨j, e1, e2, e3⟩ := Classical.choose_spec h
        obtain ⟨j', f1, f2, f3⟩ := pr
        obtain ⟨q1, q2⟩ := uq j j' t _ _ x y e1 e2 e3 f1 f2 f3
        rw [q1, q2]
      have H2N : ∀ t : Addr, Nat.lt t s1.heap.objs.size → H2 t = H1 t := fun t hl => by
        show (if t = h'.objs.size then some (HO.lst (Ts.map V.ref)) else if h : ∃ xy : V × V, Pr t xy.1 xy.2 then some (.tup [(Classical.choose h).1, (Classical.choose h).2]) else H1 t) = _
        rw [if_neg (ne5 t (lt6 t hl)), dif_neg]
        rintro ⟨xy, j, e1, _⟩
        obtain ⟨_, _, _, _, _, _, g⟩ := at_ j t e1
        exact absurd (Nat.lt_of_lt_of_le (lt6 t hl) g) (Nat.lt_irrefl _)
      have lt1 : ∀ (t : Addr) (o : HO), H1 t = some o → Nat.lt t s1.heap.objs.size := fun t o e => by
        rcases Nat.lt_or_ge t s1.heap.objs.size with z | z
        · exact z
        · rw [I1.hok.fresh z] at e; cases e
      have sm : Same H1 H2 := fun t o e => by rw [H2N t (lt1 t o e)]; exact e
      have un : Un X.fs [] H1 H2 s1.heap h2' := ⟨fun b o e _ _ _ => old b o e, fun b o e _ _ _ => ⟨o.slots, old b o e⟩, fun b o e n _ => by rw [H2N b (Heap.lt_size e)]; exact n, fun b o e _ => ⟨o, old b o e⟩, fun b xs e => sm b _ e, fun b o u e => sm b _ e, fun b ps e => ⟨#[], by rw [sm b _ e]; simp⟩⟩
      have tl : ∀ t ∈ Ts.map V.ref, ∃ c, t = V.ref c := fun t ht => by
        obtain ⟨c, _, e⟩ := List.mem_map.mp ht
        exact ⟨c, e.symm⟩
      have hok : HOk X.prog X.w H2 h2' := fun b u e => by
        by_cases c1 : b = h'.objs.size
        · rw [c1, H2S] at e
          cases e
          rw [c1]
          refine ⟨by rw [List.length_map, hTl]; exact hz1, acc'.toList, c', ?_, hS'⟩
          rw [hTs]
          clear hTs hTl at_ uq H2S H2T H2N sm un tl
          induction Ts with
          | nil => exact .nil
          | cons t r ih => exact .cons rfl ih
        · by_cases c2 : ∃ xy : V × V, Pr b xy.1 xy.2
          · obtain ⟨⟨x, y⟩, pr⟩ := c2
            rw [H2T b x y c1 pr] at e
            cases e
            obtain ⟨j, e1, e2, e3⟩ := pr
            obtain ⟨u, v, g1, g2, g3, _⟩ := at_ j b e1
            obtain ⟨w1, a1, b1⟩ := rv.get e2
            obtain ⟨w2, a2, b2⟩ := rv2.get e3
            rw [g1] at a1; cases a1
            rw [g2] at a2; cases a2
            exact ⟨by show 2 ≤ sizeLine; decide, [u, v], .cons b1 (.cons b2 .nil), ⟨_, g3, rfl, _, rfl⟩⟩
          · have e' : H1 b = some u := by
              have z : H2 b = H1 b := by
                show (if b = h'.objs.size then some (HO.lst (Ts.map V.ref)) else if h : ∃ xy : V × V, Pr b xy.1 xy.2 then some (.tup [(Classical.choose h).1, (Classical.choose h).2]) else H1 b) = _
                rw [if_neg c1, dif_neg c2]
              rw [← z]; exact e
            exact (I1.hok b u e').stay (fun c v _ q => old c v q) (fun c q => sm c _ q) fun c xs q => sm c _ q
      have I2 : Inv X pins σ H2 { s1 with heap := h2' } := I1.un (t' := s1.toks) un hok
      refine ⟨.ref h'.objs.size, H2, I2, rfl, k _ Ts H2 (I1.hok.fresh (by rw [hsz']; exact Nat.le_add_right _ _)) sm H2S hTl fun j t x y e1 e2 e3 => ?_⟩
      obtain ⟨_, _, _, _, _, g5, g6⟩ := at_ j t e1
      exact ⟨I1.hok.fresh (Nat.le_trans (Nat.le_add_right _ _) g6), g5, H2T t x y g5 ⟨j, e1, e2, e3⟩⟩
end L2

namespace K40
open PySem PySem.Spec PyProof.Rows L2
def top (i : Nat) : Stmt := PySem.Challenge.pw_openrings_k01_codes_made_and_refused.main.body.getD i (.Pass ⟨0, 0, 0, 0⟩)
abbrev c_RingError : Stmt := top 1
abbrev c_BadKind : Stmt := top 2
abbrev s_BadKind_init : Stmt := inClass (top 2) 0
abbrev c_BadWay : Stmt := top 3
abbrev s_BadWay_init : Stmt := inClass (top 3) 0
abbrev c_BadLine : Stmt := top 4
abbrev s_BadLine_init : Stmt := inClass (top 4) 0
abbrev c_Refused : Stmt := top 5
abbrev s_Refused_init : Stmt := inClass (top 5) 0
abbrev c_TooMany : Stmt := top 6
abbrev s_TooMany_init : Stmt := inClass (top 6) 0
abbrev c_Line : Stmt := top 14
abbrev s_Line_init : Stmt := inClass (top 14) 0
abbrev s_is_count : Stmt := top 15
abbrev s_fits : Stmt := top 16
abbrev s_filled : Stmt := top 17
abbrev s_first_filled : Stmt := top 18
abbrev s_read_part : Stmt := top 19
abbrev s_read_test : Stmt := top 20
abbrev s_read_line : Stmt := top 21
abbrev s_read_turn : Stmt := top 22
abbrev s_loop_around : Stmt := top 23
abbrev s_read_lines : Stmt := top 24
abbrev s_landing : Stmt := top 25
abbrev s_link : Stmt := top 26
abbrev s_read_program : Stmt := top 27
abbrev s_is_way : Stmt := top 30
abbrev s_is_kind : Stmt := top 40
abbrev s_lines_of : Stmt := top 41
abbrev s_barred_words : Stmt := top 42
abbrev s_barred_lines : Stmt := top 43
abbrev s_all_ways : Stmt := top 44
abbrev s_behind_go : Stmt := top 45
abbrev c_Walk : Stmt := top 46
abbrev s_Walk_init : Stmt := inClass (top 46) 0
abbrev s_Walk_is_behind_loops : Stmt := inClass (top 46) 1
abbrev s_Walk_refuse_next_loop : Stmt := inClass (top 46) 2
abbrev s_Walk_may_place : Stmt := inClass (top 46) 3
abbrev s_Walk_may_step_from : Stmt := inClass (top 46) 4
abbrev s_Walk_meet_loop : Stmt := inClass (top 46) 5
abbrev s_Walk_meet_early_setting : Stmt := inClass (top 46) 6
abbrev s_Walk_meet_late_setting : Stmt := inClass (top 46) 7
abbrev s_Walk_count_next : Stmt := inClass (top 46) 8
abbrev s_Walk_count_write : Stmt := inClass (top 46) 9
abbrev s_refused_on : Stmt := top 47
abbrev s_refused_lines : Stmt := top 48
abbrev s_outer_ifs : Stmt := top 49
abbrev c_Code : Stmt := top 50
abbrev s_Code_init : Stmt := inClass (top 50) 0
abbrev s_Code_len : Stmt := inClass (top 50) 1
abbrev s_Code_getitem : Stmt := inClass (top 50) 2
abbrev s_Code_iter : Stmt := inClass (top 50) 3
abbrev s_Code_eq : Stmt := inClass (top 50) 4
abbrev s_Code_in_way : Stmt := inClass (top 50) 5
abbrev s__law_bag : Stmt := top 52
abbrev s__law_draw : Stmt := top 53
abbrev s__law_told : Stmt := top 54
abbrev s__law_lines : Stmt := top 55
abbrev s__law_order_right : Stmt := top 56
abbrev s__law_ifs_right : Stmt := top 57
abbrev s__law_ways_right : Stmt := top 58
abbrev s_law : Stmt := top 59
end K40

namespace L2
open PySem PySem.Spec PyProof.Rows
def rInDT (K : PySem.W.Frag) : R2 := fun x y H Q => ∃ d ds, Dp K H x d ∧ Dp K H y (.tuple ds) ∧ SeqAt.shaped d = true ∧ SeqAt.shaped (.tuple ds) = true ∧ Q (.bl (ds.any fun z => PyData.eqv z d)) H
theorem op_inDT {X : Cx} (hu : X.A.units + 65 < cLine) : OpR X (compareOp .In) (rInDT X.K) := by
  intro pins s σ H x y v u Q I rx ry h
  obtain ⟨d, ds, hd, he, sd, se, q⟩ := h
  obtain ⟨as, r1⟩ := Dp.reads I d x v hd rx
  obtain ⟨bs, r2⟩ := Dp.reads I (.tuple ds) y u he ry
  exact SeqAt.in_tuple_reads r2 r1 (SeqAt.canLay_of_shaped se) (SeqAt.canLay_of_shaped sd) (room_in_shaped sd hu) ⟨.bl _, H, I, rfl, q⟩
theorem DpAll.length {K : PySem.W.Frag} {H : Hp} : ∀ {vs : List V} {ds : List PyData}, DpAll K H vs ds → vs.length = ds.length
  | _, _, .nil => rfl
  | _, _, .cons _ t => by rw [List.length_cons, List.length_cons, DpAll.length t]
theorem DpAll.get {K : PySem.W.Frag} {H : Hp} : ∀ {vs : List V} {ds : List PyData} {i : Nat} {d : PyData}, DpAll K H vs ds → ds[i]? = some d → ∃ v, vs[i]? = some v ∧ Dp K H v d
  | _, _, _, _, .nil, e => by simp at e
  | _, _, 0, _, .cons h _, e => by simp at e; subst e; exact ⟨_, rfl, h⟩
  | _, _, i + 1, d, .cons _ t, e => by
    obtain ⟨v, h1, h2⟩ := DpAll.get (i := i) (d := d) t (by simpa using e)
    exact ⟨v, by simpa using h1, h2⟩
theorem DpAll.keep {K : PySem.W.Frag} {H H' : Hp} (s : Same H H') : ∀ {vs : List V} {ds : List PyData}, DpAll K H vs ds → DpAll K H' vs ds
  | _, _, .nil => .nil
  | _, _, .cons h t => .cons (h.keep s) (DpAll.keep s t)
theorem Same.sqT {K : PySem.W.Frag} {H H' : Hp} {a : Addr} {xs : List V} (s : Same H H') (q : SqT K H a xs) : SqT K H' a xs := by
  rcases q with (q | ⟨o, q⟩) | q
  · exact .inl (.inl (s _ _ q))
  · exact .inl (.inr ⟨o, s _ _ q⟩)
  · exact .inr q
theorem same_upd {H : Hp} {p : Addr} {o : HO} (hp : H p = none) : Same H (upd H p o) := fun q u hq => by rw [upd_ne (ne_of_none hq hp)]; exact hq
theorem ifF {c : Bool} {A B : Prop} (hc : c = false) (h : B) : if c = true then A else B := by
  rw [hc, if_neg Bool.false_ne_true]
  exact h
theorem ifT {c : Bool} {A B : Prop} (hc : c = true) (h : A) : if c = true then A else B := by
  rw [if_pos hc]
  exact h
def isTy (d : PyData) (T : String) : Option Bool := kitB (tyD d) T
theorem is_data {K : PySem.W.Frag} {H : Hp} {v : V} {d : PyData} {T : String} {b : Bool} {Q : VK} (h : Dp K H v d) (e : kitB (tyD d) T = some b) (q : Q (.bl b) H) : rIsi K [v, .ty T] H Q :=
  ⟨v, .ty T, _, _, b, rfl, .ty T, dp_ty h, kit_ty e, q⟩
theorem del_upd {H : Hp} {p : Addr} {o : HO} : del (upd H p o) p = del H p := by
  funext b
  by_cases e : b = p
  · rw [e, del_same, del_same]
  · rw [del_ne e, del_ne e, upd_ne e]
theorem same_del {H : Hp} {p : Addr} : Same (del H p) H := fun b o h => by
  by_cases e : b = p
  · rw [e, del_same] at h; cases h
  · rw [del_ne e] at h; exact h
theorem Same.del {H H' : Hp} {p : Addr} (s : Same H H') : Same (L2.del H p) (L2.del H' p) := fun b o h => by
  by_cases e : b = p
  · rw [e, del_same] at h; cases h
  · rw [del_ne e] at h ⊢; exact s b o h
theorem Same.updl {H H' : Hp} {p : Addr} {o : HO} (s : Same H H') (hp : H p = none) : Same H (upd H' p o) := fun b u h => by
  rw [upd_ne (ne_of_none h hp)]
  exact s b u h
theorem del_new {H : Hp} {p t : Addr} {o u : HO} (hp : H p = some u) (ht : H t = none) : Same (del H p) (del (upd H t o) p) := (same_upd ht).del
end L2
namespace K40
open PySem PySem.Spec PyProof.Rows L2 Rg
def isI : D → Bool | .int _ => true | .bool _ => true | _ => false
def isB : D → Bool | .bool _ => true | _ => false
def isS : D → Bool | .str _ => true | _ => false
def isL : D → Bool | .list _ => true | _ => false
section
variable {K : PySem.W.Frag} {H : Hp} {v : V} {d : D}
theorem kit_int (h : Dp K H v d) : kitB (tyD d) "int" = some (isI d) := by cases h <;> kernel_rfl
theorem kit_bool (h : Dp K H v d) : kitB (tyD d) "bool" = some (isB d) := by cases h <;> kernel_rfl
theorem kit_str (h : Dp K H v d) : kitB (tyD d) "str" = some (isS d) := by cases h <;> kernel_rfl
theorem kit_list (h : Dp K H v d) : kitB (tyD d) "list" = some (isL d) := by cases h <;> kernel_rfl
theorem kit_tup (h : Dp K H v d) : kitB (tyD d) "tuple" = some (isT d) := by cases h <;> kernel_rfl
end
def Raw (K : PySem.W.Frag) (mg : Str → Option Value) (nm : Str) (st : Stmt) (ps : List Str) : Prop := ∃ (f : Addr) (fd : FuncData), Fun K nm nm st f fd ∧ mg nm = some (.ref f) ∧ Binds K fd ps []
def Def (P : Program) (w : World) (K : PySem.W.Frag) (mg : Str → Option Value) (base : Heap) (CX : CXT) (nm : Str) (k : Nat) (ps : List Str) (sp : Sp) : Prop :=
  ∃ (f : Addr) (fd : FuncData), FnOk P w K mg base CX k f fd ps sp ∧ mg nm = some (.ref f) ∧ PySem.W.keepIn K (.ref f) = true ∧ Binds K fd ps []
theorem Raw.def {P : Program} {w : World} {K : PySem.W.Frag} {mg : Str → Option Value} {base : Heap} {CX : CXT} {nm : Str} {st : Stmt} {ps : List Str} {k : Nat} {sp : Sp} (R : Raw K mg nm st ps) (h : ∀ f fd, Fun K nm nm st f fd → FnOk P w K mg base CX k f fd ps sp) : Def P w K mg base CX nm k ps sp :=
  let ⟨f, fd, F, g, b⟩ := R; ⟨f, fd, h f fd F, g, F.kp, b⟩
def spB (K : PySem.W.Frag) (f : D → Bool) : Sp := fun vs H Q _ => ∃ (v : V) (d : D), vs = [v] ∧ Dp K H v d ∧ ∀ H', Same H H' → Q (.bl (f d)) H'
theorem dp_tup {K : PySem.W.Frag} {H : Hp} {v : V} {ds : List D} (h : Dp K H v (.tuple ds)) : ∃ a vs, v = .ref a ∧ SqT K H a vs ∧ DpAll K H vs ds := by
  cases h with
  | tup q r => exact ⟨_, _, rfl, q, r⟩
theorem isT_tup {d : D} (h : isT d = true) : ∃ ds, d = .tuple ds := by
  cases d <;> simp [isT] at h
  exact ⟨_, rfl⟩
theorem two {α : Type} {l : List α} (h : l.length = 2) : ∃ x y, l = [x, y] := match l, h with | [x, y], _ => ⟨x, y, rfl⟩
theorem three {α : Type} {l : List α} (h : l.length = 3) : ∃ x y z, l = [x, y, z] := match l, h with | [x, y, z], _ => ⟨x, y, z, rfl⟩
theorem len_ne {n m : Nat} (h : n ≠ m) : (!decide (V.int (n : Int) = V.int (m : Int))) = true := by
  rw [decide_eq_false (fun z => h (by have := V.int.inj z; omega))]; rfl
theorem len_eq {n m : Nat} (h : n = m) : (!decide (V.int (n : Int) = V.int (m : Int))) = false := by
  rw [h, decide_eq_true rfl]; rfl
def SqX (K : PySem.W.Frag) (H : Hp) (a : Addr) (xs : List V) : Prop := SqL K H a xs ∨ SqT K H a xs
theorem SqX.keep {K : PySem.W.Frag} {H H' : Hp} {a : Addr} {xs : List V} (q : SqX K H a xs) (s : Same H H') : SqX K H' a xs := q.elim (fun h => .inl (s.seq h)) fun h => .inr (s.sqT h)
theorem take_more {α : Type} {l : List α} {i : Nat} {x : α} (h : l[i]? = some x) : l.take (i + 1) = l.take i ++ [x] := by
  rw [List.take_add_one, h]; rfl
theorem DpAll.snoc {K : PySem.W.Frag} {H : Hp} : ∀ {vs : List V} {ds : List PyData} {v : V} {d : PyData}, DpAll K H vs ds → Dp K H v d → DpAll K H (vs ++ [v]) (ds ++ [d])
  | _, _, _, _, .nil, h => .cons h .nil
  | _, _, _, _, .cons x t, h => .cons x (DpAll.snoc t h)
theorem dp_at {K : PySem.W.Frag} {H : Hp} {xs : List V} {ds : List PyData} {i : Nat} {x : V} (dp : DpAll K H xs ds) (h : xs[i]? = some x) : ∃ d, ds[i]? = some d ∧ Dp K H x d := by
  have hlt : i < ds.length := by rw [← dp.length]; exact (List.getElem?_eq_some_iff.mp h).1
  obtain ⟨v, h1, h2⟩ := dp.get (i := i) (List.getElem?_eq_getElem hlt)
  rw [h] at h1
  cases h1
  exact ⟨_, List.getElem?_eq_getElem hlt, h2⟩
theorem all_map {α : Type} (f : α → Bool) (l : List α) : (l.map f).all id = l.all f := by induction l <;> simp_all
theorem any_map {α : Type} (f : α → Bool) (l : List α) : (l.map f).any id = l.any f := by induction l <;> simp_all
open PySem.RingX
def Rz (C : Addr) (f : Str) (v : V) (H : Hp) (E : XK) : Prop := ∀ H' dd, Same H H' → H' dd = none → E (.ref C) (some dd) (upd H' dd (.xd (xdl [f] [v])))
theorem Rz.keep {C : Addr} {f : Str} {v : V} {H H1 : Hp} {E : XK} (x : Rz C f v H E) (s : Same H H1) : Rz C f v H1 E := fun H' dd s1 n => x H' dd (s.trans s1) n
end K40

/-! ## The forms of lines, as plain functions -/
namespace Fm
open PySem PySem.Spec PyProof.Rows L2
abbrev D := PyData
def PL : List (Str × List Str) := [("S", ["at", "hole", "low", "top"]), ("R", ["at", "hole", "low", "top", "out"]), ("H", ["hole", "low", "top", "out"]), ("V", ["at", "hole", "low", "top", "first", "none"]), ("N", ["at", "hole", "low", "top", "out", "first", "none"]), ("X", ["at", "hole", "low", "top", "first", "home", "hand"]), ("Q", ["empty", "stone", "item", "key"]), ("C", ["<", "<="])]
def WR : List (Str × Str) := [("copy", "S gets S"), ("lay", "S gets hand"), ("lift", "hand gets S"), ("swap", "swap hand S"), ("empty", "empty S"), ("stone", "stone S")]
def OL : List (Str × Str) := [("set", "R = V"), ("next", "R = next S"), ("quit", "quit")]
def LL : List (Str × Str) := [("go", "go"), ("keep", "keep H"), ("stop", "stop"), ("quit", "quit")]
def PR : List (Str × Str) := [("row", "S is Q"), ("same", "N is N"), ("numbers", "X C X"), ("distances", "from X C from X"), ("steps", "steps < K")]
def placeM (m : Str) : Option (List Str) := PL.lookup m
def nOf (w : Str) : Int := (PySem.intText? w).getD 0
def countM (w : Str) : Bool := if (!Txt.isdigit w || (Txt.startswith w "0" || decide (2 < w.length))) = true then false else decide (nOf w ≤ 60)
def fitsM (m w : Str) : Bool := if m = "K" then countM w else match placeM m with | some ws => inV (.str w) (ws.map .str) | none => decide (w = m)
def openM (m : Str) : Bool := decide (m = "K") || (placeM m).isSome
def filledM (form : Str) (ws : List Str) : Option (List Str) :=
  if (Txt.split form " ").length = ws.length then
    (if ((Txt.split form " ").zip ws).all (fun p => fitsM p.1 p.2) = true then some ((((Txt.split form " ").zip ws).filter fun p => openM p.1).map (·.2)) else none)
  else none
def firstM : List (Str × Str) → List Str → Option (Str × List Str)
  | [], _ => none
  | p :: r, ws => match filledM p.2 ws with | some x => some (p.1, x) | none => firstM r ws
structure Part where
  (wanted : Bool) (question : Str) (words : List Str)
  deriving DecidableEq
def threeQ (q : Str) : Bool := inV (.str q) [.str "same", .str "numbers", .str "distances"]
def partM (ws : List Str) : Option Part :=
  let wanted := !decide (ws.take 1 = [("not" : Str)])
  match firstM PR (if wanted = true then ws else ws.drop 1) with
  | none => none
  | some p => if (threeQ p.1 && decide (p.2.head? = p.2.getLast?)) = true then none else some ⟨wanted, p.1, p.2⟩
def andStep (ps : List (List Str)) (w : Str) : List (List Str) := if w = "and" then ps ++ [[]] else ps.dropLast ++ [ps.getLast?.getD [] ++ [w]]
def splitAnd (ws : List Str) : List (List Str) := ws.foldl andStep [[]]
def testM (ws : List Str) : Option (List Part) := let ps := (splitAnd ws).map partM; if ps.all (·.isSome) = true then some (ps.filterMap id) else none
structure LineM where
  form : Str
  words : List Str
  test : List Part
  loop : Nat
  opener : Nat
  turn : Nat
  ending : Nat
  thn : Nat
  oth : Nat
  deriving DecidableEq
def mkLine (f : Str) (w : List Str) (t : List Part) : LineM := ⟨f, w, t, 0, 0, 0, 0, 0, 0⟩
def lineM (text : Str) (inLoop : Bool) : Option LineM :=
  let ws := Txt.split text " "
  let h := ws.headD ""
  if h = "if" ∨ (h = "walk" ∧ inLoop = false) then (testM (ws.drop 1)).map fun t => mkLine h [] t
  else (firstM (WR ++ if inLoop = true then LL else OL) ws).map fun p => mkLine p.1 p.2 []
/-! data -/
def strsD (ws : List Str) : D := .tuple (ws.map .str)
def partD (p : Part) : D := .tuple [.bool p.wanted, .str p.question, strsD p.words]
def testD (ps : List Part) : D := .tuple (ps.map partD)
def formsD (fs : List (Str × Str)) : D := .tuple (fs.map fun p => .tuple [.str p.1, .str p.2])
def foundD : Option (Str × List Str) → D | none => .none | some p => .tuple [.str p.1, strsD p.2]
def filledD : Option (List Str) → D | none => .none | some x => strsD x
def oPartD : Option Part → D | none => .none | some p => partD p
def oTestD : Option (List Part) → D | none => .none | some p => testD p
/-! marks of the written forms, once -/
theorem split_one : Txt.split "quit" " " = [("quit" : Str)] := by decide +kernel
theorem test1 : lineM "low = none" false = some (mkLine "set" ["low", "none"] []) := by decide +kernel
theorem test2 : lineM "if low is none and not steps < 37" false = some (mkLine "if" [] [⟨true, "same", ["low", "none"]⟩, ⟨false, "steps", ["37"]⟩]) := by decide +kernel
theorem test3 : lineM "walk at is item" false = some (mkLine "walk" [] [⟨true, "row", ["at", "item"]⟩]) := by decide +kernel
theorem test4 : lineM "Low = none" false = none := by decide +kernel
end Fm

namespace K40
open PySem PySem.Spec PyProof.Rows L2 Fm PySem.RingX
/-- built-in names of the top -/
structure GB (mg : Str → Option Value) : Prop where
  isi : mg "isinstance" = none
  int : mg "int" = none
  str : mg "str" = none
  tup : mg "tuple" = none
  lst : mg "list" = none
  zip : mg "zip" = none
  len : mg "len" = none
  all : mg "all" = none
  any : mg "any" = none
  range : mg "range" = none
  enum : mg "enumerate" = none
  min : mg "min" = none
  set : mg "set" = none
structure TopF (K : PySem.W.Frag) (w : World) (mg : Str → Option Value) : Prop where
  places : ∃ aP, mg "PLACES" = some (.ref aP) ∧ ∀ m : Str, ∃ r, KHas K w aP m r ∧ r.isSome = (placeM m).isSome ∧ ∀ ws, placeM m = some ws → ∃ b, r = some (.ref b) ∧ ∀ H, SqT K H b (ws.map V.str)
  steps : ∃ t, mg "MOST_STEPS" = some (.int 60 t)
  writes : ∃ a, mg "WRITES" = some (.ref a) ∧ ∀ H, Dp K H (.ref a) (formsD WR)
  outer : ∃ a, mg "OUTER_LINES" = some (.ref a) ∧ ∀ H, Dp K H (.ref a) (formsD OL)
  loop : ∃ a, mg "LOOP_LINES" = some (.ref a) ∧ ∀ H, Dp K H (.ref a) (formsD LL)
  parts : ∃ a, mg "PARTS" = some (.ref a) ∧ ∀ H, Dp K H (.ref a) (formsD PR)
/-- a text of ascii signs, not too long -/
def Asc (x : Str) : Prop := (∀ c ∈ x.cps.toList, c < 128) ∧ x.length ≤ 100000
theorem dig_two {a : Nat} (h : Unicode.isDigit a = true) (l : a < 128) : 48 ≤ a ∧ a ≤ 57 := by
  have : ∀ a : Fin 128, Unicode.isDigit a.val = true → 48 ≤ a.val ∧ a.val ≤ 57 := by decide +kernel
  exact this ⟨a, l⟩ h
theorem num_one {a : Nat} (h1 : 48 ≤ a) (h2 : a ≤ 57) : (PySem.intText? ⟨#[a]⟩).isSome = true := by
  have : ∀ a : Fin 10, (PySem.intText? ⟨#[a.val + 48]⟩).isSome = true := by decide +kernel
  have := this ⟨a - 48, by omega⟩
  rw [show (⟨a - 48, by omega⟩ : Fin 10).val + 48 = a by show a - 48 + 48 = a; omega] at this
  exact this
theorem num_two {a b : Nat} (h1 : 48 ≤ a) (h2 : a ≤ 57) (h3 : 48 ≤ b) (h4 : b ≤ 57) : (PySem.intText? ⟨#[a, b]⟩).isSome = true := by
  have : ∀ a b : Fin 10, (PySem.intText? ⟨#[a.val + 48, b.val + 48]⟩).isSome = true := by decide +kernel
  have := this ⟨a - 48, by omega⟩ ⟨b - 48, by omega⟩
  rw [show (⟨a - 48, by omega⟩ : Fin 10).val + 48 = a by show a - 48 + 48 = a; omega, show (⟨b - 48, by omega⟩ : Fin 10).val + 48 = b by show b - 48 + 48 = b; omega] at this
  exact this
theorem num_of {x : Str} (h : Asc x) (hd : Txt.isdigit x = true) (hl : ¬ 2 < x.length) : PySem.intText? x = some (nOf x) ∧ x.length ≤ 640 := by
  have e : (PySem.intText? x).isSome = true := by
    obtain ⟨⟨l⟩⟩ := x
    unfold Txt.isdigit at hd
    obtain ⟨h0, h1⟩ := Bool.and_eq_true_iff.mp hd
    have h0 : 0 < l.length := of_decide_eq_true h0
    have hl : ¬ 2 < l.length := hl
    have ha : ∀ c ∈ l, c < 128 := h.1
    have hb : ∀ c ∈ l, Unicode.isDigit c = true := by
      have h1 : (l.toArray).all Unicode.isDigit = true := h1
      rw [List.all_toArray] at h1
      exact List.all_eq_true.mp h1
    match l, h0, hl, ha, hb with
    | [a], _, _, ha, hb =>
      obtain ⟨p, q⟩ := dig_two (hb a (by simp)) (ha a (by simp))
      exact num_one p q
    | [a, b], _, _, ha, hb =>
      obtain ⟨p, q⟩ := dig_two (hb a (by simp)) (ha a (by simp))
      obtain ⟨p', q'⟩ := dig_two (hb b (by simp)) (ha b (by simp))
      exact num_two p q p' q'
    | _ :: _ :: _ :: _, _, hl, _, _ => exact absurd (by simp) hl
  refine ⟨?_, by omega⟩
  obtain ⟨n, hn⟩ := Option.isSome_iff_exists.mp e
  unfold nOf
  rw [hn]; rfl
section
variable {P : Program} {w : World} {K : PySem.W.Frag} {mg : Str → Option Value} {base : Heap}
def spCount : Sp := fun vs H Q _ => ∃ x : Str, vs = [.str x] ∧ Asc x ∧ Q (.bl (countM x)) H
theorem scCount : FnScope ["word"] ["word"] (defScope s_is_count) := ⟨rfl, rfl, rfl, by decide +kernel, rfl, by decide +kernel, by decide +kernel⟩
theorem ok_count (R : Raw K mg "is_count" s_is_count ["word"]) (T : GB mg) (F0 : TopF K w mg) : Def P w K mg base CX0 "is_count" 1 ["word"] spCount := by
  obtain ⟨tS, gS⟩ := F0.steps
  refine R.def fun f fd F => F.ok scCount (fun vs H Q E h => ?_) (fun cdv A outer s H vs Q E hr h => ?_)
  · obtain ⟨x, rfl, _⟩ := h
    rfl
  · obtain ⟨x, rfl, ha, k⟩ := h
    refine ⟨_, pss_cons (ps_if (PW.pt (pw_or (pt_not (pt_val (pe_m0 PySem.F.slot_str_isdigit PySem.F.type_str_isdigit mt_isdigit (pv 0)))) (pw_or (pt_val (pe_m1 PySem.F.slot_str_startswith PySem.F.type_str_startswith mt_startswith (pv 0) pe_str)) (pw_or1 (pt_cmpR op_gt (pe_callB call_len_str (by rfl) T.len PySem.boot_len (pa_cons (pv 0) pa_nil)) pe_int (nomark _)))))) (pss_one (ps_ret pe_bl)) pss_nil)
      (pss_one (ps_ret (pe_cmpR op_le (pe_callTy call_int_str (by rfl) T.int (by decide +kernel) (pa_cons (pv 0) pa_nil)) (pe_glob (v := .int 60) (by rfl) gS ⟨_, rfl⟩) (nomark _)))), ?_⟩
    refine ⟨_, rfl, ⟨_, rfl⟩, x, rfl, rfl, trivial, _, rfl, ?_⟩
    unfold countM at k
    cases hd : Txt.isdigit x with
    | false =>
      rw [hd, if_pos (by rfl)] at k
      exact iteT (iteT k)
    | true =>
      rw [hd] at k
      refine iteF ⟨_, rfl, ⟨_, rfl⟩, x, "0", rfl, rfl, _, rfl, ?_⟩
      cases hs : Txt.startswith x "0" with
      | true =>
        rw [hs, if_pos (by rfl)] at k
        exact iteT (iteT k)
      | false =>
        rw [hs] at k
        refine iteF ⟨_, rfl, x, rfl, by have := ha.2; rw [sizeLine_eq]; omega, _, _, rfl, rfl, _, rfl, ?_⟩
        by_cases hl : 2 < x.length
        · refine ifT (decide_eq_true (by show (2 : Int) < (x.length : Nat); omega)) ?_
          rw [decide_eq_true hl, if_pos (by rfl)] at k
          exact k
        · refine ifF (decide_eq_false (by show ¬ (2 : Int) < (x.length : Nat); omega)) ?_
          rw [decide_eq_false hl, if_neg (by intro z; cases z)] at k
          obtain ⟨n1, n2⟩ := num_of ha hd hl
          exact ⟨_, rfl, x, _, rfl, n1, n2, _, _, rfl, rfl, k⟩
end
end K40

namespace K40
open PySem PySem.Spec PyProof.Rows L2 Fm PySem.RingX
section
variable {P : Program} {w : World} {K : PySem.W.Frag} {mg : Str → Option Value} {base : Heap}
def spFits : Sp := fun vs H Q _ => ∃ m x : Str, vs = [.str m, .str x] ∧ Asc x ∧ Q (.bl (fitsM m x)) H
theorem scFits : FnScope ["mark", "word"] ["mark", "word"] (defScope s_fits) := ⟨rfl, rfl, rfl, by decide +kernel, rfl, by decide +kernel, by decide +kernel⟩
theorem ok_fits (R : Raw K mg "fits" s_fits ["mark", "word"]) (F0 : TopF K w mg) (DC : Def P w K mg base CX0 "is_count" 1 ["word"] spCount) : Def P w K mg base CX0 "fits" 2 ["mark", "word"] spFits := by
  obtain ⟨aP, gP, hP⟩ := F0.places
  obtain ⟨fC, dC, GC, gC, kC, bC⟩ := DC
  refine R.def fun f fd F => F.ok scFits (fun vs H Q E h => ?_) (fun cdv A outer s H vs Q E hr h => ?_)
  · obtain ⟨m, x, rfl, _⟩ := h
    rfl
  · obtain ⟨m, x, rfl, ha, k⟩ := h
    refine ⟨_, pss_cons (ps_if (pt_cmpR op_eq (pv 0) pe_str (nomark _)) (pss_one (ps_ret (pe_call GC hr (by rfl) gC kC bC .nil pass0 (pa_cons (pv 1) pa_nil)))) pss_nil)
      (pss_cons (ps_if (pt_cmpR op_inKD (pv 0) (pe_glob (v := .ref aP) (by rfl) gP rfl) (by rfl)) (pss_one (ps_ret (pe_cmpR op_in_seq (pv 1) (pe_ix ix_kdict (pe_glob (v := .ref aP) (by rfl) gP rfl) (pv 0) (fun _ _ => rfl)) (by rfl)))) pss_nil)
      (pss_one (ps_ret (pe_cmpR op_eq (pv 1) (pv 0) (nomark _))))), ?_⟩
    refine ⟨_, rfl, rfl, _, rfl, ?_⟩
    unfold fitsM at k
    by_cases c : m = "K"
    · refine ifT (decide_eq_true (congrArg V.str c)) ?_
      rw [if_pos c] at k
      exact ⟨_, rfl, x, rfl, ha, k⟩
    · refine ifF (decide_eq_false fun z => c (V.str.inj z)) ?_
      rw [if_neg c] at k
      obtain ⟨r, hk, e, hs⟩ := hP m
      refine ⟨_, rfl, aP, m, r, rfl, rfl, hk, _, rfl, ?_⟩
      cases hp : placeM m with
      | none =>
        rw [hp] at k e
        refine ifF e ?_
        exact ⟨_, rfl, _, rfl, rfl, by rw [show decide (V.str x = V.str m) = decide (x = m) from decide_eq_decide.mpr ⟨V.str.inj, congrArg _⟩]; exact k⟩
      | some ws =>
        rw [hp] at k e
        refine ifT e ?_
        obtain ⟨b, rfl, sq⟩ := hs ws hp
        exact ⟨_, rfl, _, rfl, aP, m, .ref b, rfl, rfl, hk.dct, b, _, rfl, .inr (sq H), rfl, by rw [List.all_map]; exact List.all_eq_true.mpr fun _ _ => rfl, k⟩
theorem dp_snds {K : PySem.W.Frag} (l : List (Str × Str)) (H : Hp) : DpAll K H (l.map fun q => V.str q.2) ((l.map (·.2)).map PyData.str) := by
  induction l with
  | nil => exact .nil
  | cons x r ih => exact .cons (.str _) ih
def spFilled (K : PySem.W.Frag) : Sp := fun vs H Q _ => ∃ (form : Str) (a : Addr) (ws : List Str), vs = [.str form, .ref a] ∧ SqL K H a (ws.map V.str) ∧ (∀ x ∈ ws, Asc x) ∧ ws.length ≤ 100000 ∧ form.length ≤ 100 ∧ ∀ v H', Same H H' → Dp K H' v (filledD (filledM form ws)) → Q v H'
theorem scFilled : FnScope ["form", "words", "marks", "pairs", "mark", "word"] ["form", "words"] (defScope s_filled) := ⟨rfl, rfl, rfl, by decide +kernel, rfl, by decide +kernel, by decide +kernel⟩
theorem ok_filled (R : Raw K mg "filled" s_filled ["form", "words"]) (T : GB mg) (F0 : TopF K w mg) (DF : Def P w K mg base CX0 "fits" 2 ["mark", "word"] spFits) : Def P w K mg base CX0 "filled" 3 ["form", "words"] (spFilled K) := by
  obtain ⟨aP, gP, hP⟩ := F0.places
  obtain ⟨fF, dF, GF, gF, kF, bF⟩ := DF
  refine R.def fun f fd F => F.ok scFilled (fun vs H Q E h => ?_) (fun cdv A outer s H vs Q E hr h => ?_)
  · obtain ⟨form, a, ws, rfl, _⟩ := h
    rfl
  · obtain ⟨form, a, ws, rfl, sq, ha, hl, hf, k⟩ := h
    refine ⟨_, pss_cons (ps_set (i := 2) scFilled.nd rfl (Or.inl rfl) (pe_split (pv 0) pe_str))
      (pss_cons (ps_if (pt_cmpR op_ne (pe_callB call_len_seq (by rfl) T.len PySem.boot_len (pa_cons (pv 2) pa_nil)) (pe_callB call_len_seq (by rfl) T.len PySem.boot_len (pa_cons (pv 1) pa_nil)) (nomark _)) (pss_one (ps_ret pe_non)) pss_nil)
      (pss_cons (ps_set (i := 3) scFilled.nd rfl (Or.inl rfl) (pe_listZip (by rfl) T.lst (by rfl) T.zip (pa_cons (pv 2) (pa_cons (pv 1) pa_nil))))
      (pss_cons (ps_if (pt_not (pt_val (pe_callB (cr_all rfl) (by rfl) T.all (by decide +kernel) (pa_cons (pe_lc (own := [("mark", 4), ("word", 5)]) (g := gTup K 2 (gCons (gName 4) (gCons (gName 5) gNil))) (tt := tYes) (te := tCall spFits [] E (tCons (tVar 4) (tCons (tVar 5) tNil))) rfl scFilled.nd (pi_list (pv 3)) (blkOk_by (own := [("mark", 4), ("word", 5)]) (N := ["form", "words", "marks", "pairs", "mark", "word"]) (sc := defScope s_filled) (by decide +kernel))
          (fun _ _ _ _ _ => pg_tup rfl (pgs_cons (pg_name (i := 4) scFilled.nd rfl (Or.inl rfl)) (pgs_cons (pg_name (i := 5) scFilled.nd rfl (Or.inl rfl)) pgs_nil))) (fun _ _ _ _ _ => pts_nil) (fun _ _ _ _ _ => pe_call GF hr (by rfl) gF kF bF .nil pass0 (pa_cons (pv 4) (pa_cons (pv 5) pa_nil)))) pa_nil)))) (pss_one (ps_ret pe_non)) pss_nil)
      (pss_one (ps_ret (pe_tupleOf (by rfl) T.tup (pe_lc (own := [("mark", 4), ("word", 5)]) (g := gTup K 2 (gCons (gName 4) (gCons (gName 5) gNil))) rfl scFilled.nd (pi_list (pv 3)) (blkOk_by (own := [("mark", 4), ("word", 5)]) (N := ["form", "words", "marks", "pairs", "mark", "word"]) (sc := defScope s_filled) (by decide +kernel))
          (fun _ _ _ _ _ => pg_tup rfl (pgs_cons (pg_name (i := 4) scFilled.nd rfl (Or.inl rfl)) (pgs_cons (pg_name (i := 5) scFilled.nd rfl (Or.inl rfl)) pgs_nil)))
          (fun _ _ _ _ _ => pts_one (PW.pt (pw_or (pt_cmpR (show OpR _ _ (rEq) from op_eq) (pv 4) pe_str (nomark _)) (pw_or1 (pt_cmpR (show OpR _ _ (rInKD K w) from op_inKD) (pv 4) (pe_glob (v := .ref aP) (by rfl) gP rfl) (by rfl)))))) (fun _ _ _ _ _ => pv 5)))))))), ?_⟩
    refine ⟨_, rfl, ⟨_, rfl⟩, form, " ", rfl, rfl, by decide, by rw [sizeLine_eq]; omega, fun p1 hp1 => ?_⟩
    have s1 : Same H (upd H p1 (.lst ((Txt.split form " ").map V.str))) := same_upd hp1
    have sq1 := s1.seq sq
    refine ⟨_, rfl, p1, _, rfl, .inl (SqL.of upd_same), _, rfl, a, _, rfl, .inl sq1, rfl, _, rfl, ?_⟩
    rw [List.length_map, List.length_map]
    generalize hms : Txt.split form " " = ms at *
    unfold filledM at k
    rw [hms] at k
    by_cases c : ms.length = ws.length
    · refine ifF (len_eq c) ?_
      rw [if_pos c] at k
      refine ⟨_, rfl, _, rfl, p1, a, _, _, rfl, SqL.of upd_same, sq1, by rw [List.length_map, List.length_map]; exact c, fun p Ts H2 hp s2 hl2 ht hT => ?_⟩
      have s02 := s1.trans s2
      rw [List.length_map] at ht
      have zl : (ms.zip ws).length = Ts.length := by rw [List.length_zip, ht]; omega
      have turn : ∀ (i : Nat) (x : V) (H' : Hp), (Ts.map V.ref)[i]? = some x → Same H2 H' → ∃ (t : Addr) (m w : Str), (ms.zip ws)[i]? = some (m, w) ∧ x = .ref t ∧ SqT K H' t [.str m, .str w] ∧ Asc w := fun i x H' hx s' => by
        rw [List.getElem?_map] at hx
        obtain ⟨t, ht', rfl⟩ := Option.map_eq_some_iff.mp hx
        have hi : i < Ts.length := (List.getElem?_eq_some_iff.mp ht').1
        have hm : i < ms.length := by omega
        have hw : i < ws.length := by omega
        obtain ⟨_, _, e⟩ := hT i t (.str ms[i]) (.str ws[i]) ht' (by rw [List.getElem?_map, List.getElem?_eq_getElem hm]; rfl) (by rw [List.getElem?_map, List.getElem?_eq_getElem hw]; rfl)
        refine ⟨t, ms[i], ws[i], ?_, rfl, SqT.of (s' _ _ e), ha _ (List.getElem_mem hw)⟩
        rw [List.getElem?_zip_eq_some]
        exact ⟨List.getElem?_eq_getElem hm, List.getElem?_eq_getElem hw⟩
      have small : (ms.zip ws).length ≤ 100000 := by rw [List.length_zip]; omega
      refine ⟨_, rfl, p, rfl, ⟨_, SqL.of hl2⟩, fun D hD => lc_list (K := K) (a := p) (xs := Ts.map V.ref) (fun i H' => Same H2 H' ∧ H' D = some (.lst (((ms.zip ws).take i).map fun q => V.bl (fitsM q.1 q.2)))) ⟨same_upd hD, upd_same⟩ (fun i H' _ h => SqL.of (h.1 _ _ hl2)) ?_ ?_⟩
      · rintro i x H3 hx ⟨s3, h3⟩
        obtain ⟨t, m, w, hz, rfl, sqt, hw⟩ := turn i x H3 hx s3
        refine ⟨t, _, rfl, sqt, rfl, _, _, rfl, _, _, rfl, rfl, rfl, _, rfl, _, rfl, m, w, rfl, hw, _, h3, ?_, fun y o hy => ?_, ?_⟩
        · rw [List.length_map, List.length_take, sizeLine_eq]; omega
        · rw [upd_ne (ne_of_none hy hD)]; exact s3 y o hy
        · rw [upd_same, take_more hz, List.map_append]; rfl
      · rintro H3 ⟨s3, h3⟩
        rw [List.length_map, ← zl, List.take_length] at h3
        refine ⟨D, (ms.zip ws).map fun q => fitsM q.1 q.2, rfl, ?_, ?_⟩
        · refine SqL.of (h3.trans ?_)
          rw [List.map_map]; rfl
        rw [all_map]
        have s03 := s02.trans s3
        cases hal : (ms.zip ws).all fun q => fitsM q.1 q.2 with
        | false =>
          rw [hal, if_neg (by decide)] at k
          exact ⟨_, rfl, iteT (k _ _ s03 .non)⟩
        | true =>
          rw [hal, if_pos (by rfl)] at k
          refine ⟨_, rfl, iteF ?_⟩
          refine ⟨_, rfl, p, rfl, ⟨_, SqL.of (s3 _ _ hl2)⟩, fun D2 hD2 => lc_list (K := K) (a := p) (xs := Ts.map V.ref) (fun i H' => Same H3 H' ∧ H' D2 = some (.lst ((((ms.zip ws).take i).filter fun q => openM q.1).map fun q => V.str q.2))) ⟨same_upd hD2, upd_same⟩ (fun i H' _ h => SqL.of (h.1 _ _ (s3 _ _ hl2))) ?_ ?_⟩
          · rintro i x H4 hx ⟨s4, h4⟩
            obtain ⟨t, m, w, hz, rfl, sqt, hw⟩ := turn i x H4 hx (s3.trans s4)
            have len4 : ((((ms.zip ws).take i).filter fun q => openM q.1).map fun q => V.str q.2).length < sizeLine := by
              have h1 := List.length_filter_le (fun q : Str × Str => openM q.1) ((ms.zip ws).take i)
              rw [List.length_take] at h1
              rw [List.length_map, sizeLine_eq]; omega
            have yes : openM m = true → Same H3 (upd H4 D2 (.lst (((((ms.zip ws).take i).filter fun q => openM q.1).map fun q => V.str q.2) ++ [V.str w]))) ∧ upd H4 D2 (.lst (((((ms.zip ws).take i).filter fun q => openM q.1).map fun q => V.str q.2) ++ [V.str w])) D2 = some (.lst ((((ms.zip ws).take (i + 1)).filter fun q => openM q.1).map fun q => V.str q.2)) := fun e => by
              refine ⟨fun y o hy => ?_, ?_⟩
              · rw [upd_ne (ne_of_none hy hD2)]; exact s4 y o hy
              · rw [upd_same, take_more hz, List.filter_append, List.filter_cons_of_pos (by exact e), List.map_append]; rfl
            refine ⟨t, _, rfl, sqt, rfl, _, _, rfl, _, _, rfl, rfl, rfl, _, rfl, rfl, _, rfl, ?_⟩
            by_cases c1 : m = "K"
            · refine ifT (decide_eq_true (congrArg V.str c1)) ?_
              refine iteT ⟨_, rfl, _, h4, len4, yes ?_⟩
              unfold openM
              rw [decide_eq_true c1]; rfl
            · refine ifF (decide_eq_false fun z => c1 (V.str.inj z)) ?_
              obtain ⟨r, hk, e, _⟩ := hP m
              refine ⟨_, rfl, aP, m, r, rfl, rfl, hk, _, rfl, ?_⟩
              rw [e]
              have eo : openM m = (placeM m).isSome := by unfold openM; rw [decide_eq_false c1]; rfl
              cases hpl : (placeM m).isSome with
              | true => exact iteT ⟨_, rfl, _, h4, len4, yes (eo.trans hpl)⟩
              | false =>
                refine iteF ⟨s4, ?_⟩
                rw [h4, take_more hz, List.filter_append, List.filter_cons_of_neg (by rw [eo.trans hpl]; decide)]
                simp
          · rintro H4 ⟨s4, h4⟩
            rw [List.length_map, ← zl, List.take_length] at h4
            refine .inl ⟨D2, _, rfl, SqL.of h4, fun q hq => ?_⟩
            refine k _ _ (s03.trans (s4.trans (same_upd hq))) ?_
            refine .tup (SqT.of upd_same) ?_
            exact dp_snds _ _
    · refine ifT (len_ne c) ?_
      rw [if_neg c] at k
      exact k _ _ s1 .non
end
end K40

namespace K40
open PySem PySem.Spec PyProof.Rows L2 Fm PySem.RingX
theorem dp_strs {K : PySem.W.Frag} {H : Hp} : ∀ ws : List Str, DpAll K H (ws.map V.str) (ws.map PyData.str)
  | [] => .nil
  | n :: ns => .cons (.str n) (dp_strs ns)
theorem asc_ok {x : Str} (h : Asc x) : PyData.strOk x = true := by
  unfold PyData.strOk
  rw [← Array.all_toList]
  exact List.all_eq_true.mpr fun c hc => decide_eq_true (by have := h.1 c hc; omega)
theorem strs_shape : ∀ {ns : List Str}, (∀ x ∈ ns, Asc x) → PyData.canLayAll0 (ns.map PyData.str) = true ∧ PyData.depthAll (ns.map PyData.str) ≤ 1
  | [], _ => by simp [PyData.canLayAll0, PyData.depthAll]
  | n :: ns, h => by
    obtain ⟨h1, h2⟩ := strs_shape fun x hx => h x (List.mem_cons_of_mem _ hx)
    refine ⟨by simp [PyData.canLayAll0, PyData.canLay0, h1, asc_ok (h n List.mem_cons_self)], ?_⟩
    rw [List.map_cons]
    unfold PyData.depthAll
    have : PyData.depth (PyData.str n) ≤ 1 := by simp [PyData.depth]
    omega
theorem strsL_shaped {ns : List Str} (h : ∀ x ∈ ns, Asc x) : SeqAt.shaped (.list (ns.map PyData.str)) = true := by
  obtain ⟨h1, h2⟩ := strs_shape h
  unfold SeqAt.shaped
  simp only [PyData.canLay0, PyData.depth, h1, Bool.true_and]
  exact decide_eq_true (by omega)
theorem eqvAll_strs : ∀ (ns ms : List Str), PyData.eqvAll (ns.map PyData.str) (ms.map PyData.str) = decide (ns = ms)
  | [], [] => by simp [PyData.eqvAll]
  | [], _ :: _ => by simp [PyData.eqvAll]
  | _ :: _, [] => by simp [PyData.eqvAll]
  | n :: ns, m :: ms => by
    simp only [List.map_cons, PyData.eqvAll, PyData.eqv, eqvAll_strs ns ms]
    by_cases c : n = m <;> simp [c]
theorem dp_str {K : PySem.W.Frag} {H : Hp} {v : V} {x : Str} (h : Dp K H v (.str x)) : v = .str x := by cases h; rfl
theorem dp_strsT {K : PySem.W.Frag} {H : Hp} {v : V} {ws : List Str} (h : Dp K H v (strsD ws)) : ∃ a, v = .ref a ∧ SqT K H a (ws.map V.str) := by
  obtain ⟨a, vs, rfl, q, r⟩ := dp_tup h
  refine ⟨a, rfl, ?_⟩
  have : vs = ws.map V.str := by
    clear q h
    induction ws generalizing vs with
    | nil => cases r; rfl
    | cons w ws ih =>
      cases r with
      | cons h1 h2 => rw [dp_str h1, ih _ h2]; rfl
  rw [← this]; exact q
section
variable {P : Program} {w : World} {K : PySem.W.Frag} {mg : Str → Option Value} {base : Heap}
def spFirst (K : PySem.W.Frag) : Sp := fun vs H Q _ => ∃ (vf : V) (fs : List (Str × Str)) (a : Addr) (ws : List Str), vs = [vf, .ref a] ∧ Dp K H vf (formsD fs) ∧ (∀ p ∈ fs, p.2.length ≤ 100) ∧ SqL K H a (ws.map V.str) ∧ (∀ x ∈ ws, Asc x) ∧ ws.length ≤ 100000 ∧ ∀ v H', Same H H' → Dp K H' v (foundD (firstM fs ws)) → Q v H'
theorem scFirst : FnScope ["forms", "words", "name", "form", "found"] ["forms", "words"] (defScope s_first_filled) := ⟨rfl, rfl, rfl, by decide +kernel, rfl, by decide +kernel, by decide +kernel⟩
theorem firstM_at {fs : List (Str × Str)} {ws : List Str} {i : Nat} {p : Str × Str} (h : fs[i]? = some p) : firstM (fs.drop i) ws = match filledM p.2 ws with | some x => some (p.1, x) | none => firstM (fs.drop (i + 1)) ws := by
  obtain ⟨hi, e⟩ := List.getElem?_eq_some_iff.mp h
  rw [List.drop_eq_getElem_cons hi, e]
  rfl
theorem ok_first (R : Raw K mg "first_filled" s_first_filled ["forms", "words"]) (DF : Def P w K mg base CX0 "filled" 3 ["form", "words"] (spFilled K)) : Def P w K mg base CX0 "first_filled" 4 ["forms", "words"] (spFirst K) := by
  obtain ⟨fF, dF, GF, gF, kF, bF⟩ := DF
  refine R.def fun f fd F => F.ok scFirst (fun vs H Q E h => ?_) (fun cdv A outer s H vs Q E hr h => ?_)
  · obtain ⟨vf, fs, a, ws, rfl, _⟩ := h
    rfl
  · obtain ⟨vf, fs, a, ws, rfl, hd, hf, sq, ha, hl, k⟩ := h
    obtain ⟨af, xs, rfl, sf, dp⟩ := dp_tup hd
    refine ⟨_, pss_cons (ps_for PassesOwn.never rfl (pi_tup (pv 0)) (pg_tup rfl (pgs_cons (pg_name (i := 2) scFirst.nd rfl (Or.inl rfl)) (pgs_cons (pg_name (i := 3) scFirst.nd rfl (Or.inl rfl)) pgs_nil)))
        (pss_cons (ps_set (i := 4) scFirst.nd rfl (Or.inl rfl) (pe_call GF hr (by rfl) gF kF bF .nil pass0 (pa_cons (pv 3) (pa_cons (pv 1) pa_nil))))
        (pss_one (ps_if (pt_cmpR op_notN (pv 4) pe_non (nomark _)) (pss_one (ps_ret (pe_tup (pa_cons (pv 2) (pa_cons (pv 4) pa_nil))))) pss_nil))))
      (pss_one (ps_ret pe_non)), ?_⟩
    have xl := dp.length
    rw [List.length_map] at xl
    refine ⟨_, rfl, af, rfl, ⟨_, sf⟩, for_tup (K := K) (a := af) (xs := xs) (fun i σ H' => (∃ x2 x3 x4, σ = [some (.ref af), some (.ref a), x2, x3, x4]) ∧ Same H H' ∧ firstM fs ws = firstM (fs.drop i) ws) ⟨⟨_, _, _, rfl⟩, Same.refl _, rfl⟩ (fun i σ H' _ h => h.2.1.sqT sf) ?_ ?_⟩
    · rintro i x σ H1 hx ⟨⟨x2, x3, x4, rfl⟩, s1, e1⟩
      obtain ⟨d, hdi, dx⟩ := dp_at dp hx
      rw [List.getElem?_map] at hdi
      obtain ⟨p, hp, rfl⟩ := Option.map_eq_some_iff.mp hdi
      obtain ⟨t, ts, rfl, sqt, dt⟩ := dp_tup dx
      cases dt with
      | cons h1 dt => cases dt with
        | cons h2 dt =>
          cases dt
          cases dp_str h1
          cases dp_str h2
          have hfp := firstM_at (ws := ws) hp
          refine ⟨t, _, rfl, s1.sqT sqt, rfl, _, _, rfl, _, _, rfl, rfl, _, rfl, _, rfl, p.2, a, ws, rfl, s1.seq sq, ha, hl, hf p (List.mem_of_getElem? hp), fun v H2 s2 d2 => ?_⟩
          refine ⟨_, rfl, rfl, _, rfl, ?_⟩
          cases hfm : filledM p.2 ws with
          | none =>
            rw [hfm] at d2 hfp
            cases d2
            exact ifF (by rfl) ⟨⟨_, _, _, rfl⟩, s1.trans s2, e1.trans hfp⟩
          | some y =>
            rw [hfm] at d2 hfp
            obtain ⟨ay, rfl, _⟩ := dp_strsT d2
            refine ifT (by rfl) ⟨_, rfl, _, rfl, (by show 2 ≤ sizeLine; decide), fun q hq => ?_⟩
            refine k _ _ ((s1.trans s2).trans (same_upd hq)) ?_
            rw [e1.trans hfp]
            exact .tup (SqT.of upd_same) (.cons (.str _) (.cons (d2.keep (same_upd hq)) .nil))
    · rintro σ H1 ⟨⟨x2, x3, x4, rfl⟩, s1, e1⟩
      rw [xl, List.drop_length] at e1
      refine k _ _ s1 ?_
      rw [e1]
      exact .non
end
end K40

namespace K40
open PySem PySem.Spec PyProof.Rows L2 Fm PySem.RingX
theorem cut_one {xs : List V} : cutV xs none (some (1 : Int)) = xs.take 1 := by
  cases xs with
  | nil => rfl
  | cons x r =>
    show (List.drop (HT.sIx (r.length + 1) 0 none) (x :: r)).take (HT.sIx (r.length + 1) (r.length + 1) (some 1) - HT.sIx (r.length + 1) 0 none) = _
    have e0 : HT.sIx (r.length + 1) 0 none = 0 := rfl
    have e1 : HT.sIx (r.length + 1) (r.length + 1) (some 1) = 1 := by
      unfold HT.sIx
      simp
    rw [e0, e1]; rfl
theorem cut_from {xs : List V} : cutV xs (some (1 : Int)) none = xs.drop 1 := by
  cases xs with
  | nil => rfl
  | cons x r =>
    show (List.drop (HT.sIx (r.length + 1) 0 (some 1)) (x :: r)).take (HT.sIx (r.length + 1) (r.length + 1) none - HT.sIx (r.length + 1) 0 (some 1)) = _
    have e0 : HT.sIx (r.length + 1) (r.length + 1) none = r.length + 1 := rfl
    have e1 : HT.sIx (r.length + 1) 0 (some 1) = 1 := by
      unfold HT.sIx
      simp
    rw [e0, e1]
    show r.take (r.length + 1 - 1) = r
    rw [Nat.add_sub_cancel, List.take_length]
theorem zip_open : ∀ (ms ws : List Str), ms.length = ws.length → (((ms.zip ws).filter fun p => openM p.1).map (·.2)).length = (ms.filter openM).length
  | [], [], _ => rfl
  | [], _ :: _, h => by cases h
  | _ :: _, [], h => by cases h
  | m :: ms, w :: ws, h => by
    have ih := zip_open ms ws (by simpa using h)
    rw [List.zip_cons_cons]
    cases c : openM m with
    | true => rw [List.filter_cons_of_pos (by exact c), List.filter_cons_of_pos c, List.map_cons, List.length_cons, List.length_cons, ih]
    | false => rw [List.filter_cons_of_neg (by rw [c]; decide), List.filter_cons_of_neg (by rw [c]; decide), ih]
theorem filled_len {form : Str} {ws x : List Str} (h : filledM form ws = some x) : x.length = ((Txt.split form " ").filter openM).length := by
  unfold filledM at h
  by_cases c : (Txt.split form " ").length = ws.length
  · rw [if_pos c] at h
    split at h
    · cases h
      exact zip_open _ _ c
    · cases h
  · rw [if_neg c] at h; cases h
theorem first_len {fs : List (Str × Str)} {ws : List Str} {p : Str × List Str} (h : firstM fs ws = some p) : ∃ form, (p.1, form) ∈ fs ∧ filledM form ws = some p.2 ∧ p.2.length = ((Txt.split form " ").filter openM).length := by
  induction fs with
  | nil => cases h
  | cons q r ih =>
    unfold firstM at h
    cases e : filledM q.2 ws with
    | none =>
      rw [e] at h
      obtain ⟨form, h1, h2⟩ := ih h
      exact ⟨form, List.mem_cons_of_mem _ h1, h2⟩
    | some x =>
      rw [e] at h
      cases h
      exact ⟨q.2, List.mem_cons_self, e, filled_len e⟩
theorem three_two : ∀ p ∈ PR, threeQ p.1 = true → 0 < ((Txt.split p.2 " ").filter openM).length := by decide +kernel
theorem forms_short : (∀ p ∈ PR, p.2.length ≤ 100) ∧ (∀ p ∈ WR ++ OL, p.2.length ≤ 100) ∧ ∀ p ∈ WR ++ LL, p.2.length ≤ 100 := by decide +kernel
theorem ends_eq {l : List Str} (h : 0 < l.length) : ∃ a b, l[0]? = some a ∧ l[l.length - 1]? = some b ∧ decide (l.head? = l.getLast?) = decide (a = b) := by
  refine ⟨l[0], l[l.length - 1], List.getElem?_eq_getElem h, List.getElem?_eq_getElem (by omega), ?_⟩
  rw [List.head?_eq_getElem?, List.getLast?_eq_getElem?, List.getElem?_eq_getElem h, List.getElem?_eq_getElem (by omega)]
  exact decide_eq_decide.mpr ⟨Option.some.inj, congrArg some⟩
section
variable {P : Program} {w : World} {K : PySem.W.Frag} {mg : Str → Option Value} {base : Heap}
def spPart (K : PySem.W.Frag) : Sp := fun vs H Q _ => ∃ (a : Addr) (ws : List Str), vs = [.ref a] ∧ SqL K H a (ws.map V.str) ∧ (∀ x ∈ ws, Asc x) ∧ ws.length ≤ 100000 ∧ ∀ v H', Same H H' → Dp K H' v (oPartD (partM ws)) → Q v H'
theorem scPart : FnScope ["words", "wanted", "found", "question", "named"] ["words"] (defScope s_read_part) := ⟨rfl, rfl, rfl, by decide +kernel, rfl, by decide +kernel, by decide +kernel⟩
theorem ok_part (R : Raw K mg "read_part" s_read_part ["words"]) (F0 : TopF K w mg) (DF : Def P w K mg base CX0 "first_filled" 4 ["forms", "words"] (spFirst K)) : Def P w K mg base CX0 "read_part" 5 ["words"] (spPart K) := by
  obtain ⟨aR, gR, hR⟩ := F0.parts
  obtain ⟨fF, dF, GF, gF, kF, bF⟩ := DF
  refine R.def fun f fd F => F.ok scPart (fun vs H Q E h => ?_) (fun cdv A outer s H vs Q E hr h => ?_)
  · obtain ⟨a, ws, rfl, _⟩ := h
    rfl
  · obtain ⟨a, ws, rfl, sq, ha, hl, k⟩ := h
    have hu64 : (A.deeper (envOfC "read_part" (defScope s_read_part) s.heap.objs.size f cdv)).units + 64 < cLine := by have := hr.un; omega
    obtain ⟨tR, pR, qR⟩ : ∃ tR, PSs (cxOf CX0 P w K mg base ["words", "wanted", "found", "question", "named"] "read_part" (defScope s_read_part) f cdv A outer s H E).nox ((defBody s_read_part).drop 2) tR ∧
        ∀ (b : Bool) (v : V) (H3 : Hp), b = (!decide (ws.take 1 = [("not" : Str)])) → Same H H3 → Dp K H3 v (foundD (firstM PR (if b = true then ws else ws.drop 1))) → tR { nx := fun _ H' => Q .non H', rt := Q } [some (.ref a), some (.bl b), some v, none, none] H3 := by
      refine ⟨_, pss_cons (ps_if (pt_cmpR op_isN (pv 2) pe_non (nomark _)) (pss_one (ps_ret pe_non)) pss_nil)
        (pss_cons (ps_asg (pv 2) (pg_tup rfl (pgs_cons (pg_name (i := 3) scPart.nd rfl (Or.inl rfl)) (pgs_cons (pg_name (i := 4) scPart.nd rfl (Or.inl rfl)) pgs_nil))))
        (pss_cons (ps_if (PW.pt (pw_and (pt_cmpR op_in_seq (pv 3) (pe_tup (pa_cons pe_str (pa_cons pe_str (pa_cons pe_str pa_nil)))) (by rfl)) (pw_and1 (pt_cmpR op_eq (pe_ix ix_tup (pv 4) pe_int (fun _ _ => rfl)) (pe_ix ix_tup (pv 4) (pe_un un_neg pe_int) (fun _ _ => rfl)) (nomark _))))) (pss_one (ps_ret pe_non)) pss_nil)
        (pss_one (ps_ret (pe_tup (pa_cons (pv 1) (pa_cons (pv 3) (pa_cons (pv 4) pa_nil)))))))), ?_⟩
      intro b v H3 hb s3 d3
      have ek : partM ws = match firstM PR (if b = true then ws else ws.drop 1) with | none => none | some p => if (threeQ p.1 && decide (p.2.head? = p.2.getLast?)) = true then none else some ⟨b, p.1, p.2⟩ := by rw [hb]; rfl
      rw [ek] at k
      refine ⟨_, rfl, rfl, _, rfl, ?_⟩
      generalize hus : (if b = true then ws else ws.drop 1) = us at *
      cases hf : firstM PR us with
      | none =>
        rw [hf] at d3 k
        cases d3
        exact ifT (by rfl) (k _ _ s3 .non)
      | some p =>
        rw [hf] at d3 k
        have k2 : ∀ v H', Same H H' → Dp K H' v (oPartD (if (threeQ p.1 && decide (p.2.head? = p.2.getLast?)) = true then none else some ⟨b, p.1, p.2⟩)) → Q v H' := k
        obtain ⟨t, ts, rfl, sqt, dt⟩ := dp_tup d3
        cases dt with
        | cons h1 dt => cases dt with
          | cons h2 dt =>
            cases dt
            cases dp_str h1
            obtain ⟨aw, rfl, sw⟩ := dp_strsT h2
            refine ifF (by rfl) ⟨_, rfl, t, _, rfl, sqt, rfl, _, _, rfl, _, _, rfl, rfl, ?_⟩
            refine ⟨_, rfl, (by show 3 ≤ sizeLine; decide), fun q hq => ?_⟩
            have s4 := s3.trans (same_upd (o := .tup [V.str "same", V.str "numbers", V.str "distances"]) hq)
            have sw4 := (same_upd (o := .tup [V.str "same", V.str "numbers", V.str "distances"]) hq).sqT sw
            have h24 := h2.keep (same_upd (o := .tup [V.str "same", V.str "numbers", V.str "distances"]) hq)
            refine ⟨q, _, rfl, .inr (SqT.of upd_same), rfl, by rfl, _, rfl, ?_⟩
            have last : (threeQ p.1 && decide (p.2.head? = p.2.getLast?)) = false → _ := fun e => (fun q2 hq2 => k2 (.ref q2) _ (s4.trans (same_upd (o := .tup [V.bl b, V.str p.1, V.ref aw]) hq2)) (by rw [e, if_neg (by decide)]; exact .tup (SqT.of upd_same) (.cons (.bl b) (.cons (.str _) (.cons (h24.keep (same_upd hq2)) .nil)))) : ∀ q2, (upd H3 q (.tup [V.str "same", V.str "numbers", V.str "distances"])) q2 = none → Q (.ref q2) (upd (upd H3 q (.tup [V.str "same", V.str "numbers", V.str "distances"])) q2 (.tup [V.bl b, V.str p.1, V.ref aw])))
            show if threeQ p.1 = true then _ else _
            cases c3 : threeQ p.1 with
            | false => exact iteF ⟨_, rfl, _, rfl, _, rfl, (by show 3 ≤ sizeLine; decide), fun q2 hq2 => last (by rw [c3]; rfl) q2 hq2⟩
            | true =>
              obtain ⟨form, m1, _, m2⟩ := first_len hf
              have pos : 0 < p.2.length := by rw [m2]; exact three_two _ m1 c3
              obtain ⟨x, y, e1, e2, e3⟩ := ends_eq pos
              refine iteT ⟨_, rfl, aw, _, 0, .str x, rfl, rfl, sw4, atI_nat (by rw [List.getElem?_map, e1]; rfl), _, rfl, _, rfl, aw, _, -1, .str y, rfl, rfl, sw4, ?_, rfl, _, rfl, ?_⟩
              · have el : p.2 = p.2.dropLast ++ [y] := by
                  have hne : p.2 ≠ [] := fun z => by rw [z] at pos; cases pos
                  rw [List.getElem?_eq_getElem (by omega)] at e2
                  have e2 := Option.some.inj e2
                  rw [← List.getLast_eq_getElem hne] at e2
                  rw [← e2, List.dropLast_concat_getLast hne]
                rw [el, List.map_append]
                exact atI_last _ _
              · rw [e3] at last
                by_cases c : x = y
                · refine ifT (decide_eq_true (congrArg V.str c)) ?_
                  rw [e3, c3, decide_eq_true c, if_pos (by rfl)] at k2
                  exact k2 _ _ s4 .non
                · refine ifF (decide_eq_false fun z => c (V.str.inj z)) ?_
                  exact ⟨_, rfl, _, rfl, _, rfl, (by show 3 ≤ sizeLine; decide), fun q2 hq2 => last (by rw [decide_eq_false c, Bool.and_false]) q2 hq2⟩
    refine ⟨_, pss_cons (ps_set (i := 1) scPart.nd rfl (Or.inl rfl) (pe_cmpR (op_neD hu64) (pe_slice sl_list (pv 0) po_none (po_some pe_int)) (pe_lst (pa_cons pe_str pa_nil)) (nomark _)))
      (pss_cons (ps_set (i := 2) scPart.nd rfl (Or.inl rfl) (pe_call GF hr (by rfl) gF kF bF .nil pass0 (pa_cons (pe_glob (v := .ref aR) (by rfl) gR rfl) (pa_cons (pe_ifExp (pt_val (pv 1)) (pv 0) (pe_slice sl_list (pv 0) (po_some pe_int) po_none)) pa_nil)))) pR), ?_⟩
    refine ⟨_, rfl, 1, rfl, a, _, rfl, sq, fun p1 hp1 => ⟨(by show 1 ≤ sizeLine; decide), fun p2 hp2 => ?_⟩⟩
    have s1 := same_upd (o := .lst (cutV (ws.map V.str) none (some 1))) hp1
    have s2 := s1.trans (same_upd (o := .lst [V.str "not"]) hp2)
    have n12 : p1 ≠ p2 := fun z => by rw [← z, upd_same] at hp2; cases hp2
    have asc1 : ∀ x ∈ ws.take 1, Asc x := fun x hx => ha x (List.mem_of_mem_take hx)
    have ascN : ∀ x ∈ [("not" : Str)], Asc x := fun x hx => by rw [List.mem_singleton.mp hx]; exact ⟨by decide +kernel, by decide +kernel⟩
    refine ⟨.list ((ws.take 1).map .str), .list ([("not" : Str)].map .str), .lst (SqL.of (by rw [upd_ne n12, upd_same, cut_one, ← List.map_take])) (dp_strs _), .lst (SqL.of upd_same) (dp_strs [("not" : Str)]), strsL_shaped asc1, strsL_shaped ascN, ?_⟩
    rw [show PyData.eqv (.list ((ws.take 1).map .str)) (.list ([("not" : Str)].map .str)) = decide (ws.take 1 = [("not" : Str)]) from eqvAll_strs _ _]
    have hlp : ∀ p ∈ PR, p.2.length ≤ 100 := forms_short.1
    generalize hb : (!decide (ws.take 1 = [("not" : Str)])) = b
    refine ⟨_, rfl, b, rfl, ?_⟩
    cases b with
    | true => exact iteT ⟨_, rfl, .ref aR, PR, a, ws, rfl, hR _, hlp, s2.seq sq, ha, hl, fun v H3 s3 d3 => qR true v H3 hb.symm (s2.trans s3) d3⟩
    | false =>
      refine iteF ⟨_, rfl, 1, rfl, a, _, rfl, s2.seq sq, fun p3 hp3 => ⟨.ref aR, PR, p3, ws.drop 1, rfl, hR _, hlp, SqL.of (by rw [upd_same, cut_from, ← List.map_drop]), fun x hx => ha x (List.mem_of_mem_drop hx), by rw [List.length_drop]; omega, fun v H3 s3 d3 => qR false v H3 hb.symm ((s2.trans (same_upd hp3)).trans s3) d3⟩⟩
end
end K40

namespace L2
open PySem PySem.Spec PyProof.Rows
mutual
def tOnly : PyData → Bool
  | .tuple ds => tOnlyAll ds
  | .list _ => false
  | .dict _ => false
  | .none => true
  | .bool _ => true
  | .int _ => true
  | .str _ => true
def tOnlyAll : List PyData → Bool
  | [] => true
  | d :: ds => tOnly d && tOnlyAll ds
end
/-- tuples stand as before -/
def ExtT (H H' : Hp) : Prop := ∀ q o, ((∃ xs, o = .tup xs) ∨ ∃ u v, o = .frz u v) → H q = some o → H' q = some o
theorem ExtT.of {H H' : Hp} (s : Same H H') : ExtT H H' := fun q o _ h => s q o h
theorem ExtT.refl (H : Hp) : ExtT H H := fun _ _ _ h => h
theorem ExtT.trans {H H1 H2 : Hp} (x : ExtT H H1) (y : ExtT H1 H2) : ExtT H H2 := fun q o s h => y q o s (x q o s h)
/-- a change at an object that is no tuple -/
theorem ExtT.upd {H : Hp} {p : Addr} {o u : HO} (h : H p = some u) (n : (∀ xs, u ≠ .tup xs) ∧ ∀ a b, u ≠ .frz a b) : ExtT H (L2.upd H p o) := fun q v hv hq => by
  refine (upd_ne fun e => ?_).trans hq
  rw [e, h] at hq
  cases Option.some.inj hq
  rcases hv with ⟨xs, z⟩ | ⟨a, b, z⟩
  · exact n.1 xs z
  · exact n.2 a b z
theorem ExtT.lst {H : Hp} {p : Addr} {o : HO} {xs : List V} (h : H p = some (.lst xs)) : ExtT H (L2.upd H p o) := .upd h ⟨fun _ z => (nomatch z), fun _ _ z => nomatch z⟩
theorem ExtT.ins {H : Hp} {p C dx : Addr} {o : HO} {fs : List (Str × V)} (h : H p = some (.ins C dx fs)) : ExtT H (L2.upd H p o) := .upd h ⟨fun _ z => (nomatch z), fun _ _ z => nomatch z⟩
theorem ExtT.dk {H : Hp} {p : Addr} {o : HO} {kvs : List (Key × V)} (h : H p = some (.dK kvs)) : ExtT H (L2.upd H p o) := .upd h ⟨fun _ z => (nomatch z), fun _ _ z => nomatch z⟩
theorem ExtT.sqT {K : PySem.W.Frag} {H H' : Hp} (s : ExtT H H') {a : Addr} {xs : List V} (q : SqT K H a xs) : SqT K H' a xs := by
  rcases q with (q | ⟨o, q⟩) | q
  · exact .inl (.inl (s _ _ (.inl ⟨_, rfl⟩) q))
  · exact .inl (.inr ⟨o, s _ _ (.inr ⟨_, _, rfl⟩) q⟩)
  · exact .inr q
theorem Dp.keepT {K : PySem.W.Frag} {H H' : Hp} (s : ExtT H H') : ∀ {d : PyData} {v : V}, Dp K H v d → tOnly d = true → Dp K H' v d := by
  intro d v h
  induction h using Dp.rec (motive_2 := fun vs ds _ => tOnlyAll ds = true → DpAll K H' vs ds) with
  | non => intro _; exact .non
  | bl b => intro _; exact .bl b
  | int i => intro _; exact .int i
  | str x => intro _; exact .str x
  | lst q _ ih => intro h; cases h
  | tup q _ ih => intro h; exact .tup (s.sqT q) (ih h)
  | nil => exact .nil
  | cons _ _ ih1 ih2 =>
    rename_i h
    obtain ⟨h1, h2⟩ := Bool.and_eq_true_iff.mp h
    exact .cons (ih1 h1) (ih2 h2)
theorem DpAll.keepT {K : PySem.W.Frag} {H H' : Hp} (s : ExtT H H') : ∀ {ds : List PyData} {vs : List V}, DpAll K H vs ds → tOnlyAll ds = true → DpAll K H' vs ds
  | [], _, .nil, _ => .nil
  | _ :: _, _, .cons a b, h => .cons (a.keepT s (Bool.and_eq_true_iff.mp h).1) (DpAll.keepT s b (Bool.and_eq_true_iff.mp h).2)
theorem tOnlyAll_iff {ds : List PyData} : tOnlyAll ds = true ↔ ∀ d ∈ ds, tOnly d = true := by
  induction ds with
  | nil => simp [tOnlyAll]
  | cons d r ih => simp [tOnlyAll, ih]
end L2
namespace K40
open PySem PySem.Spec PyProof.Rows L2 Fm PySem.RingX
theorem tOnly_strs (ws : List Str) : tOnly (strsD ws) = true := by
  show tOnlyAll _ = true
  exact tOnlyAll_iff.mpr fun d hd => by
    obtain ⟨x, _, rfl⟩ := List.mem_map.mp hd
    rfl
theorem tOnly_part (p : Part) : tOnly (partD p) = true := by
  show (true && (true && (tOnly (strsD p.words) && true))) = true
  rw [tOnly_strs]; rfl
theorem tOnly_oPart (p : Option Part) : tOnly (oPartD p) = true := by
  cases p with
  | none => rfl
  | some p => exact tOnly_part p
theorem tOnly_test (t : List Part) : tOnly (testD t) = true := by
  show tOnlyAll _ = true
  exact tOnlyAll_iff.mpr fun d hd => by
    obtain ⟨x, _, rfl⟩ := List.mem_map.mp hd
    exact tOnly_part x
/-! shapes -/
theorem strs_lay {ws : List Str} (h : ∀ x ∈ ws, Asc x) : (strsD ws).canLay0 = true ∧ (strsD ws).depth ≤ 2 := by
  obtain ⟨h1, h2⟩ := strs_shape h
  unfold strsD
  simp only [PyData.canLay0, PyData.depth, h1, true_and]
  omega
theorem filled_sub {form : Str} {ws x : List Str} (h : filledM form ws = some x) : ∀ y ∈ x, y ∈ ws := by
  unfold filledM at h
  split at h
  · split at h
    · cases h
      intro y hy
      obtain ⟨q, hq, rfl⟩ := List.mem_map.mp hy
      exact (List.of_mem_zip (List.mem_filter.mp hq).1).2
    · cases h
  · cases h
theorem names_asc : ∀ p ∈ PR ++ (WR ++ (OL ++ LL)), Asc p.1 := by
  have : ∀ p ∈ PR ++ (WR ++ (OL ++ LL)), (∀ c ∈ p.1.cps.toList, c < 128) ∧ p.1.length ≤ 100000 := by decide +kernel
  exact this
theorem part_lay {ws : List Str} (h : ∀ x ∈ ws, Asc x) : (oPartD (partM ws)).canLay0 = true ∧ (oPartD (partM ws)).depth ≤ 3 := by
  have hm : ∀ p, partM ws = some p → Asc p.question ∧ ∀ x ∈ p.words, x ∈ ws := by
    intro p hp
    unfold partM at hp
    dsimp only at hp
    generalize hus : (if (!decide (ws.take 1 = [("not" : Str)])) = true then ws else ws.drop 1) = us at hp
    have sub : ∀ x ∈ us, x ∈ ws := fun x hx => by
      rw [← hus] at hx
      split at hx
      · exact hx
      · exact List.mem_of_mem_drop hx
    cases hf : firstM PR us with
    | none => rw [hf] at hp; cases hp
    | some q =>
      rw [hf] at hp
      dsimp only at hp
      split at hp
      · cases hp
      · cases hp
        obtain ⟨form, m1, m2, _⟩ := first_len hf
        exact ⟨names_asc _ (List.mem_append_left _ m1), fun x hx => sub x (filled_sub m2 x hx)⟩
  cases hp : partM ws with
  | none => exact ⟨rfl, by show PyData.depth .none ≤ 3; simp [PyData.depth]⟩
  | some p =>
    obtain ⟨h1, h2⟩ := hm p hp
    obtain ⟨h3, h4⟩ := strs_lay (ws := p.words) fun x hx => h x (h2 x hx)
    show (partD p).canLay0 = true ∧ (partD p).depth ≤ 3
    unfold partD
    simp only [PyData.canLay0, PyData.canLayAll0, PyData.depth, PyData.depthAll, h3, asc_ok h1, Bool.and_self, true_and]
    omega
theorem lay_all {n : Nat} : ∀ {ds : List PyData}, (∀ d ∈ ds, d.canLay0 = true ∧ d.depth ≤ n) → PyData.canLayAll0 ds = true ∧ PyData.depthAll ds ≤ n
  | [], _ => by simp [PyData.canLayAll0, PyData.depthAll]
  | d :: ds, h => by
    obtain ⟨h1, h2⟩ := h d List.mem_cons_self
    obtain ⟨h3, h4⟩ := lay_all fun e he => h e (List.mem_cons_of_mem _ he)
    simp only [PyData.canLayAll0, PyData.depthAll, h1, h3, Bool.and_self, true_and]
    omega
end K40

namespace K40
open PySem PySem.Spec PyProof.Rows L2 Fm PySem.RingX
/-- a list p of new lists of texts -/
structure Heaps (H : Hp) (p : Addr) (L : List (Addr × List Str)) : Prop where
  lst : H p = some (.lst (L.map fun q => V.ref q.1))
  each : ∀ q ∈ L, H q.1 = some (.lst (q.2.map V.str))
  nd : (L.map (·.1)).Nodup
  off : ∀ q ∈ L, q.1 ≠ p
theorem Heaps.more {H : Hp} {p q : Addr} {L : List (Addr × List Str)} (x : Heaps H p L) (hq : H q = none) : Heaps (upd (upd H q (.lst [])) p (.lst ((L.map fun q => V.ref q.1) ++ [V.ref q]))) p (L ++ [(q, [])]) := by
  have qp : q ≠ p := (ne_of_none x.lst hq).symm
  have ne : ∀ c ∈ L, c.1 ≠ q := fun c hc => ne_of_none (x.each c hc) hq
  refine ⟨by rw [upd_same, List.map_append]; rfl, fun c hc => ?_, ?_, fun c hc => ?_⟩
  · rcases List.mem_append.mp hc with hc | hc
    · rw [upd_ne (x.off c hc), upd_ne (ne c hc)]; exact x.each c hc
    · rw [List.mem_singleton.mp hc, upd_ne qp, upd_same]; rfl
  · rw [List.map_append]
    refine List.nodup_append.mpr ⟨x.nd, by simp, fun a ha b hb => ?_⟩
    obtain ⟨c, hc, rfl⟩ := List.mem_map.mp ha
    rw [show b = q by simpa using hb]
    exact ne c hc
  · rcases List.mem_append.mp hc with hc | hc
    · exact x.off c hc
    · rw [List.mem_singleton.mp hc]; exact qp
theorem Heaps.grow {H : Hp} {p q : Addr} {L : List (Addr × List Str)} {ss : List Str} {w : Str} (x : Heaps H p (L ++ [(q, ss)])) : Heaps (upd H q (.lst (ss.map V.str ++ [V.str w]))) p (L ++ [(q, ss ++ [w])]) := by
  have nq : q ≠ p := x.off (q, ss) (by simp)
  have nd := x.nd
  rw [List.map_append] at nd
  obtain ⟨nd1, _, nd3⟩ := List.nodup_append.mp nd
  refine ⟨by rw [upd_ne (Ne.symm nq), x.lst, List.map_append, List.map_append]; rfl, fun c hc => ?_, by rw [List.map_append]; exact nd, fun c hc => ?_⟩
  · rcases List.mem_append.mp hc with hc | hc
    · have : c.1 ≠ q := nd3 _ (List.mem_map_of_mem hc) q (by simp)
      rw [upd_ne this]
      exact x.each c (List.mem_append_left _ hc)
    · rw [List.mem_singleton.mp hc, upd_same, List.map_append]; rfl
  · rcases List.mem_append.mp hc with hc | hc
    · exact x.off c (List.mem_append_left _ hc)
    · rw [List.mem_singleton.mp hc]; exact nq
theorem Heaps.keep {H H' : Hp} {p : Addr} {L : List (Addr × List Str)} (x : Heaps H p L) (s : Same H H') : Heaps H' p L := ⟨s _ _ x.lst, fun q hq => s _ _ (x.each q hq), x.nd, x.off⟩
theorem splitAnd_take {ws : List Str} {i : Nat} {w : Str} (h : ws[i]? = some w) : (ws.take (i + 1)).foldl andStep [[]] = andStep ((ws.take i).foldl andStep [[]]) w := by
  rw [take_more h, List.foldl_append]; rfl
theorem splitAnd_ne (ws : List Str) : ∀ ps : List (List Str), ps ≠ [] → ws.foldl andStep ps ≠ [] := by
  induction ws with
  | nil => exact fun ps h => h
  | cons w r ih =>
    intro ps h
    refine ih _ ?_
    unfold andStep
    split <;> simp
theorem splitAnd_mem (ws : List Str) : ∀ ps : List (List Str), ∀ q ∈ ws.foldl andStep ps, ∀ x ∈ q, x ∈ ws ∨ ∃ r ∈ ps, x ∈ r := by
  induction ws with
  | nil => exact fun ps q hq x hx => .inr ⟨q, hq, hx⟩
  | cons w r ih =>
    intro ps q hq x hx
    rcases ih _ q hq x hx with h | ⟨c, hc, hx'⟩
    · exact .inl (List.mem_cons_of_mem _ h)
    · unfold andStep at hc
      split at hc
      · rcases List.mem_append.mp hc with hc | hc
        · exact .inr ⟨c, hc, hx'⟩
        · rw [List.mem_singleton.mp hc] at hx'; cases hx'
      · rcases List.mem_append.mp hc with hc | hc
        · exact .inr ⟨c, List.dropLast_subset _ hc, hx'⟩
        · rw [List.mem_singleton.mp hc] at hx'
          rcases List.mem_append.mp hx' with hx' | hx'
          · cases hl : ps.getLast? with
            | none => rw [hl] at hx'; cases hx'
            | some l => rw [hl] at hx'; exact .inr ⟨l, List.mem_of_getLast? hl, hx'⟩
          · rw [List.mem_singleton.mp hx']; exact .inl List.mem_cons_self
theorem andStep_len (ps : List (List Str)) (w : Str) : (andStep ps w).length ≤ ps.length + 1 := by
  unfold andStep
  split
  · simp
  · simp only [List.length_append, List.length_dropLast, List.length_cons, List.length_nil]; omega
theorem andStep_each {ps : List (List Str)} {w : Str} {n : Nat} (hn : ∀ r ∈ ps, r.length ≤ n) : ∀ r ∈ andStep ps w, r.length ≤ n + 1 := fun c hc => by
  unfold andStep at hc
  split at hc
  · rcases List.mem_append.mp hc with hc | hc
    · have := hn c hc; omega
    · rw [List.mem_singleton.mp hc]; simp
  · rcases List.mem_append.mp hc with hc | hc
    · have := hn c (List.dropLast_subset _ hc); omega
    · rw [List.mem_singleton.mp hc, List.length_append]
      cases hl : ps.getLast? with
      | none => simp
      | some l =>
        have := hn l (List.mem_of_getLast? hl)
        simp; omega
theorem splitAnd_len (ws : List Str) : ∀ ps : List (List Str), (ws.foldl andStep ps).length ≤ ps.length + ws.length ∧ ∀ n, (∀ r ∈ ps, r.length ≤ n) → ∀ q ∈ ws.foldl andStep ps, q.length ≤ n + ws.length := by
  induction ws with
  | nil => exact fun ps => ⟨by simp, fun n h q hq => by have := h q hq; simpa using this⟩
  | cons w r ih =>
    intro ps
    obtain ⟨h1, h2⟩ := ih (andStep ps w)
    refine ⟨?_, fun n hn q hq => ?_⟩
    · show (r.foldl andStep (andStep ps w)).length ≤ _
      have := andStep_len ps w
      rw [List.length_cons]; omega
    · have := h2 (n + 1) (andStep_each hn) q hq
      rw [List.length_cons]; omega
section
variable {P : Program} {w : World} {K : PySem.W.Frag} {mg : Str → Option Value} {base : Heap}
def spTest (K : PySem.W.Frag) : Sp := fun vs H Q _ => ∃ (a : Addr) (ws : List Str), vs = [.ref a] ∧ SqL K H a (ws.map V.str) ∧ (∀ x ∈ ws, Asc x) ∧ ws.length ≤ 100000 ∧ ∀ v H', Same H H' → Dp K H' v (oTestD (testM ws)) → Q v H'
theorem scTest : FnScope ["words", "parts", "word", "test", "part"] ["words"] (defScope s_read_test) := ⟨rfl, rfl, rfl, by decide +kernel, rfl, by decide +kernel, by decide +kernel⟩
theorem ok_test (R : Raw K mg "read_test" s_read_test ["words"]) (T : GB mg) (DF : Def P w K mg base CX0 "read_part" 5 ["words"] (spPart K)) : Def P w K mg base CX0 "read_test" 6 ["words"] (spTest K) := by
  obtain ⟨fF, dF, GF, gF, kF, bF⟩ := DF
  refine R.def fun f fd F => F.ok scTest (fun vs H Q E h => ?_) (fun cdv A outer s H vs Q E hr h => ?_)
  · obtain ⟨a, ws, rfl, _⟩ := h
    rfl
  · obtain ⟨a, ws, rfl, sq, ha, hl, k⟩ := h
    have hu65 : (A.deeper (envOfC "read_test" (defScope s_read_test) s.heap.objs.size f cdv)).units + 65 < cLine := by have := hr.un; omega
    refine ⟨_, pss_cons (ps_set (i := 1) scTest.nd rfl (Or.inl rfl) (pe_lst (pa_cons (pe_lst pa_nil) pa_nil)))
      (pss_cons (ps_for PassesOwn.never rfl (pi_list (pv 0)) (pg_name (i := 2) scTest.nd rfl (Or.inl rfl))
        (pss_one (ps_if (pt_cmpR op_eq (pv 2) pe_str (nomark _))
          (pss_one (ps_expr (pe_bm PySem.F.plainAttrs_list PySem.F.slot_list_append PySem.F.type_list_append mt_append (pv 1) (pa_cons (pe_lst pa_nil) pa_nil))))
          (pss_one (ps_expr (pe_bm PySem.F.plainAttrs_list PySem.F.slot_list_append PySem.F.type_list_append mt_append (pe_ix ix_list (pv 1) (pe_un un_neg pe_int) (fun _ _ => rfl)) (pa_cons (pv 2) pa_nil)))))))
      (pss_cons (ps_set (i := 3) scTest.nd rfl (Or.inl rfl) (pe_tupleOf (by rfl) T.tup (pe_lc (own := [("part", 4)]) (g := gName 4) (tt := tYes) (te := tCall (spPart K) [] E (tCons (tVar 4) tNil)) rfl scTest.nd (pi_list (pv 1)) (blkOk_by (own := [("part", 4)]) (N := ["words", "parts", "word", "test", "part"]) (sc := defScope s_read_test) (by decide +kernel))
          (fun _ _ _ _ _ => pg_name (i := 4) scTest.nd rfl (Or.inl rfl)) (fun _ _ _ _ _ => pts_nil) (fun _ _ _ _ _ => pe_call GF hr (by rfl) gF kF bF .nil pass0 (pa_cons (pv 4) pa_nil)))))
      (pss_one (ps_ret (pe_ifExp (pt_cmpR (op_inDT hu65) pe_non (pv 3) (by rfl)) pe_non (pv 3)))))), ?_⟩
    refine ⟨(by show 0 ≤ sizeLine; decide), fun q0 hq0 => ⟨(by show 1 ≤ sizeLine; decide), fun p hp => ?_⟩⟩
    have s1 := same_upd (o := .lst []) hq0
    have s2 := s1.trans (same_upd (o := .lst [V.ref q0]) hp)
    have qp0 : q0 ≠ p := fun z => by rw [← z, upd_same] at hp; cases hp
    have HH : Heaps (upd (upd H q0 (.lst [])) p (.lst [V.ref q0])) p [(q0, [])] := ⟨upd_same, fun c hc => by rw [List.mem_singleton.mp hc, upd_ne qp0, upd_same]; rfl, by simp, fun c hc => by rw [List.mem_singleton.mp hc]; exact qp0⟩
    have hp0 : H p = none := by
      cases e : H p with
      | none => rfl
      | some o => rw [s1 _ _ e] at hp; cases hp
    refine ⟨_, rfl, a, rfl, ⟨_, s2.seq sq⟩, for_list (K := K) (a := a) (xs := ws.map V.str) (fun i σ H' => (∃ x2, σ = [some (.ref a), some (.ref p), x2, none, none]) ∧ Same H H' ∧ ∃ L, Heaps H' p L ∧ L.map (·.2) = (ws.take i).foldl andStep [[]] ∧ ∀ c ∈ L, H c.1 = none) ⟨⟨_, rfl⟩, s2, _, HH, rfl, fun c hc => by rw [List.mem_singleton.mp hc]; exact hq0⟩ (fun i σ H' _ h => h.2.1.seq sq) ?_ ?_⟩
    · rintro i x σ H1 hx ⟨⟨x2, rfl⟩, s3, L, hL, eL, nL⟩
      rw [List.getElem?_map] at hx
      obtain ⟨y, hy, rfl⟩ := Option.map_eq_some_iff.mp hx
      have hi : i < ws.length := (List.getElem?_eq_some_iff.mp hy).1
      have et := splitAnd_take hy
      have lens := splitAnd_len (ws.take i) [[]]
      rw [← eL, List.length_map, List.length_take] at lens
      have ll : L.length ≤ 100001 := by have := lens.1; simp only [List.length_cons, List.length_nil] at this; omega
      refine ⟨_, rfl, rfl, _, rfl, ?_⟩
      by_cases c : y = "and"
      · refine ifT (decide_eq_true (congrArg V.str c)) ?_
        refine ⟨_, rfl, .inl ⟨rfl, _, SqL.of hL.lst⟩, (by show 0 ≤ sizeLine; decide), fun q hq => ?_⟩
        have qp : q ≠ p := (ne_of_none hL.lst hq).symm
        refine ⟨p, _, _, rfl, rfl, (upd_ne (Ne.symm qp)).trans hL.lst, by rw [List.length_map, sizeLine_eq]; omega, ⟨_, rfl⟩, ?_, L ++ [(q, [])], hL.more hq, ?_, fun c hc => ?_⟩
        · exact (s3.trans (same_upd hq)).updl hp0
        · rw [et, ← eL, List.map_append]
          unfold andStep
          rw [if_pos c]; rfl
        · rcases List.mem_append.mp hc with hc | hc
          · exact nL c hc
          · rw [List.mem_singleton.mp hc]
            cases e : H q with
            | none => rfl
            | some o => rw [s3 _ _ e] at hq; cases hq
      · refine ifF (decide_eq_false fun z => c (V.str.inj z)) ?_
        have Lne : L ≠ [] := fun z => splitAnd_ne (ws.take i) [[]] (by simp) (by rw [← eL, z]; rfl)
        obtain ⟨L1, q, eq⟩ : ∃ L1 q, L = L1 ++ [q] := ⟨L.dropLast, L.getLast Lne, (List.dropLast_concat_getLast Lne).symm⟩
        subst eq
        obtain ⟨q, ss⟩ := q
        have hqs := hL.each (q, ss) (by simp)
        have sl : ss.length ≤ 100000 := by
          have := lens.2 0 (fun r hr => by rw [List.mem_singleton.mp hr]; exact Nat.le_refl _) ss (by rw [List.map_append]; simp)
          omega
        refine ⟨_, rfl, _, rfl, p, _, _, .ref q, rfl, rfl, SqL.of hL.lst, by rw [List.map_append]; exact atI_last _ _, .inl ⟨rfl, _, SqL.of hqs⟩, _, rfl, q, _, _, rfl, rfl, hqs, by rw [List.length_map, sizeLine_eq]; show ss.length < _; omega, ⟨_, rfl⟩, ?_, L1 ++ [(q, ss ++ [y])], hL.grow, ?_, fun c hc => ?_⟩
        · exact s3.updl (nL (q, ss) (by simp))
        · rw [et, ← eL, List.map_append, List.map_append]
          unfold andStep
          rw [if_neg c]
          simp
        · rcases List.mem_append.mp hc with hc | hc
          · exact nL c (List.mem_append_left _ hc)
          · rw [List.mem_singleton.mp hc]; exact nL (q, ss) (by simp)
    · rintro σ H1 ⟨⟨x2, rfl⟩, s3, L, hL, eL, nL⟩
      rw [List.length_map, List.take_length] at eL
      have lens := splitAnd_len ws [[]]
      rw [← eL, List.length_map] at lens
      have ll : L.length ≤ 100001 := by have := lens.1; simp only [List.length_cons, List.length_nil] at this; omega
      refine ⟨_, rfl, p, rfl, ⟨_, SqL.of hL.lst⟩, fun D hD => lc_list (K := K) (a := p) (xs := L.map fun q => V.ref q.1) (fun i H' => Same H1 H' ∧ ∃ ys, H' D = some (.lst ys) ∧ DpAll K H' ys ((L.take i).map fun q => oPartD (partM q.2))) ⟨same_upd hD, [], upd_same, .nil⟩ (fun i H' _ h => SqL.of (h.1 _ _ hL.lst)) ?_ ?_⟩
      · rintro i x H2 hx ⟨s4, ys, hy, dy⟩
        rw [List.getElem?_map] at hx
        obtain ⟨c, hc, rfl⟩ := Option.map_eq_some_iff.mp hx
        have cm := List.mem_of_getElem? hc
        have cin : c.2 ∈ ws.foldl andStep [[]] := by rw [← eL]; exact List.mem_map_of_mem cm
        refine ⟨rfl, _, rfl, c.1, c.2, rfl, SqL.of (s4 _ _ (hL.each c cm)), fun x hx => ?_, ?_, fun v H3 s5 d5 => ?_⟩
        · rcases splitAnd_mem ws [[]] c.2 cin x hx with h | ⟨r, hr, h⟩
          · exact ha x h
          · rw [List.mem_singleton.mp hr] at h; cases h
        · have := lens.2 0 (fun r hr => by rw [List.mem_singleton.mp hr]; exact Nat.le_refl _) c.2 (List.mem_map_of_mem cm)
          omega
        · have h5 := s5 _ _ hy
          have yl := dy.length
          rw [List.length_map, List.length_take] at yl
          have tO : tOnlyAll ((L.take i).map fun q => oPartD (partM q.2)) = true := tOnlyAll_iff.mpr fun d hd => by
            obtain ⟨e, _, rfl⟩ := List.mem_map.mp hd
            exact tOnly_oPart _
          refine ⟨_, h5, by rw [sizeLine_eq]; omega, (s4.trans s5).updl hD, _, upd_same, ?_⟩
          rw [take_more hc, List.map_append]
          exact DpAll.snoc (DpAll.keepT (ExtT.lst h5) (DpAll.keep s5 dy) tO) (d5.keepT (ExtT.lst h5) (tOnly_oPart _))
      · rintro H2 ⟨s4, ys, hy, dy⟩
        rw [List.length_map, List.take_length] at dy
        refine .inl ⟨D, ys, rfl, SqL.of hy, fun t ht => ?_⟩
        have st := same_upd (o := .tup ys) ht
        have dt := DpAll.keep st dy
        have em : (L.map fun q => oPartD (partM q.2)) = ((splitAnd ws).map partM).map oPartD := by
          show _ = ((ws.foldl andStep [[]]).map partM).map oPartD
          rw [← eL, List.map_map, List.map_map]; rfl
        rw [em] at dt
        have lay : ∀ d ∈ ((splitAnd ws).map partM).map oPartD, d.canLay0 = true ∧ d.depth ≤ 3 := fun d hd => by
          obtain ⟨o, ho, rfl⟩ := List.mem_map.mp hd
          obtain ⟨us, hus, rfl⟩ := List.mem_map.mp ho
          refine part_lay fun x hx => ?_
          rcases splitAnd_mem ws [[]] us hus x hx with h | ⟨r, hr, h⟩
          · exact ha x h
          · rw [List.mem_singleton.mp hr] at h; cases h
        obtain ⟨l1, l2⟩ := lay_all lay
        have shp : SeqAt.shaped (.tuple (((splitAnd ws).map partM).map oPartD)) = true := by
          unfold SeqAt.shaped
          simp only [PyData.canLay0, PyData.depth, l1, Bool.true_and]
          exact decide_eq_true (by omega)
        refine ⟨_, rfl, .none, _, .non, .tup (SqT.of upd_same) dt, by kernel_rfl, shp, _, rfl, ?_⟩
        have s5 := ((s3.trans s4).trans st)
        unfold testM at k
        dsimp only at k
        have eany : ((((splitAnd ws).map partM).map oPartD).any fun z => PyData.eqv z .none) = !(((splitAnd ws).map partM).all (·.isSome)) := by
          generalize (splitAnd ws).map partM = l
          induction l with
          | nil => rfl
          | cons o r ih =>
            rw [List.map_cons, List.any_cons, List.all_cons, ih, Bool.not_and]
            congr 1
            cases o <;> rfl
        rw [eany]
        cases hal : ((splitAnd ws).map partM).all (·.isSome) with
        | false =>
          rw [hal, if_neg (by decide)] at k
          exact iteT (k _ _ s5 .non)
        | true =>
          rw [hal, if_pos (by rfl)] at k
          refine iteF ⟨_, rfl, k _ _ s5 ?_⟩
          have e2 : ((splitAnd ws).map partM).map oPartD = (((splitAnd ws).map partM).filterMap id).map partD := by
            revert hal
            generalize (splitAnd ws).map partM = l
            intro hal
            induction l with
            | nil => rfl
            | cons o r ih =>
              obtain ⟨h1, h2⟩ := Bool.and_eq_true_iff.mp (List.all_cons ▸ hal)
              cases o with
              | none => cases h1
              | some p => rw [List.map_cons, ih h2]; rfl
          rw [e2] at dt
          exact .tup (SqT.of upd_same) dt
end
end K40

namespace K40
open PySem PySem.Spec PyProof.Rows L2 Fm PySem.RingX
theorem cps_append (x y : Str) : (x ++ y).cps.toList = x.cps.toList ++ y.cps.toList := by
  show (x.cps ++ y.cps).toList = _
  simp
theorem join_parts (sep : Str) : ∀ l : List Str, (∀ p ∈ l, (∀ c ∈ p.cps.toList, c ∈ (Str.join sep l).cps.toList) ∧ p.length ≤ (Str.join sep l).length) ∧ (1 ≤ sep.length → l.length ≤ (Str.join sep l).length + 1)
  | [] => ⟨(fun p hp => nomatch hp), fun _ => Nat.zero_le _⟩
  | [x] => ⟨fun p hp => by rw [List.mem_singleton.mp hp]; exact ⟨fun c hc => hc, Nat.le_refl _⟩, fun _ => by show 1 ≤ _; omega⟩
  | x :: y :: r => by
    obtain ⟨h1, h2⟩ := join_parts sep (y :: r)
    have e : Str.join sep (x :: y :: r) = x ++ sep ++ Str.join sep (y :: r) := rfl
    rw [e]
    refine ⟨fun p hp => ?_, fun hs => ?_⟩
    · rcases List.mem_cons.mp hp with rfl | hp
      · refine ⟨fun c hc => ?_, ?_⟩
        · rw [cps_append, cps_append]
          exact List.mem_append_left _ (List.mem_append_left _ hc)
        · rw [Str.length_append, Str.length_append]; omega
      · obtain ⟨g1, g2⟩ := h1 p hp
        refine ⟨fun c hc => ?_, ?_⟩
        · rw [cps_append]
          exact List.mem_append_right _ (g1 c hc)
        · rw [Str.length_append]; omega
    · have := h2 hs
      rw [Str.length_append, Str.length_append, List.length_cons]
      omega
theorem split_parts {x sep : Str} (h : Asc x) (hs : 1 ≤ sep.length) : (∀ p ∈ Txt.split x sep, Asc p ∧ p.length ≤ x.length) ∧ (Txt.split x sep).length ≤ x.length + 1 ∧ 1 ≤ (Txt.split x sep).length := by
  have e := StrLaws.join_split x sep
  obtain ⟨h1, h2⟩ := join_parts sep (Txt.split x sep)
  rw [e] at h1 h2
  exact ⟨fun p hp => ⟨⟨fun c hc => h.1 c ((h1 p hp).1 c hc), Nat.le_trans (h1 p hp).2 h.2⟩, (h1 p hp).2⟩, h2 hs, PyProof.Rows.split_pos x sep⟩
/-! ### a line of a program, as an object -/
def lnF (f : Str) (vw vt : V) (lo op tu en th ot : Int) : List (Str × V) := [("form", .str f), ("words", vw), ("test", vt), ("loop", .int lo), ("opener", .int op), ("turn", .int tu), ("ending", .int en), ("then", .int th), ("other", .int ot)]
def lineNames : List Str := ["form", "words", "test", "loop", "opener", "turn", "ending", "then", "other"]
section
variable (f : Str) (vw vt : V) (lo op tu en th ot z : Int)
theorem ln_form : (lnF f vw vt lo op tu en th ot).lookup ("form" : Str) = some (.str f) := by kernel_rfl
theorem ln_words : (lnF f vw vt lo op tu en th ot).lookup ("words" : Str) = some vw := by kernel_rfl
theorem ln_test : (lnF f vw vt lo op tu en th ot).lookup ("test" : Str) = some vt := by kernel_rfl
theorem ln_loop : (lnF f vw vt lo op tu en th ot).lookup ("loop" : Str) = some (.int lo) := by kernel_rfl
theorem ln_opener : (lnF f vw vt lo op tu en th ot).lookup ("opener" : Str) = some (.int op) := by kernel_rfl
theorem ln_turn : (lnF f vw vt lo op tu en th ot).lookup ("turn" : Str) = some (.int tu) := by kernel_rfl
theorem ln_ending : (lnF f vw vt lo op tu en th ot).lookup ("ending" : Str) = some (.int en) := by kernel_rfl
theorem ln_then : (lnF f vw vt lo op tu en th ot).lookup ("then" : Str) = some (.int th) := by kernel_rfl
theorem ln_other : (lnF f vw vt lo op tu en th ot).lookup ("other" : Str) = some (.int ot) := by kernel_rfl
theorem lp_loop : putF "loop" (.int z) (lnF f vw vt lo op tu en th ot) = lnF f vw vt z op tu en th ot := by kernel_rfl
theorem lp_opener : putF "opener" (.int z) (lnF f vw vt lo op tu en th ot) = lnF f vw vt lo z tu en th ot := by kernel_rfl
theorem lp_turn : putF "turn" (.int z) (lnF f vw vt lo op tu en th ot) = lnF f vw vt lo op z en th ot := by kernel_rfl
theorem lp_ending : putF "ending" (.int z) (lnF f vw vt lo op tu en th ot) = lnF f vw vt lo op tu z th ot := by kernel_rfl
theorem lp_then : putF "then" (.int z) (lnF f vw vt lo op tu en th ot) = lnF f vw vt lo op tu en z ot := by kernel_rfl
theorem lp_other : putF "other" (.int z) (lnF f vw vt lo op tu en th ot) = lnF f vw vt lo op tu en th z := by kernel_rfl
theorem ln_made : putF "other" (.int 0) (putF "then" (.int 0) (putF "ending" (.int 0) (putF "turn" (.int 0) (putF "opener" (.int 0) (putF "loop" (.int 0) (putF "test" vt (putF "words" vw (putF "form" (.str f) [])))))))) = lnF f vw vt 0 0 0 0 0 0 := by kernel_rfl
end
theorem putF_le (f : Str) (v : V) : ∀ fs : List (Str × V), (putF f v fs).length ≤ fs.length + 1
  | [] => Nat.le_refl _
  | p :: r => by
    unfold putF
    split
    · simp
    · have := putF_le f v r
      simp only [List.length_cons]; omega
theorem putF_lt {f : Str} {v : V} {fs : List (Str × V)} {n : Nat} (h : fs.length < n) : (putF f v fs).length < n + 1 := Nat.lt_of_le_of_lt (putF_le f v fs) (Nat.add_lt_add_right h 1)
theorem lt1000 {n m : Nat} (h : n < m) (hm : m ≤ 1000 := by decide) : n < 1000 := Nat.lt_of_lt_of_le h hm
theorem nil_lt : ([] : List (Str × V)).length < 1 := by decide
/-- a class of the top -/
structure ClsT (K : PySem.W.Frag) (mg : Str → Option Value) (C : Addr) (nm : Str) (fs : List Str) : Prop where
  cl : Cls K C
  no : ∀ f ∈ fs, NoAttr K C f
  gC : mg nm = some (.ref C)
section
variable {P : Program} {w : World} {K : PySem.W.Frag} {mg : Str → Option Value} {base : Heap}
def spLineI (C : Addr) : Sp := fun vs H Q _ => ∃ (p dx : Addr) (f : Str) (vw vt : V), vs = [.ref p, .str f, vw, vt] ∧ H p = some (.ins C dx []) ∧ Q .non (upd H p (.ins C dx (lnF f vw vt 0 0 0 0 0 0)))
theorem scLineI : FnScope ["self", "form", "words", "test"] ["self", "form", "words", "test"] (defScope s_Line_init) := ⟨rfl, rfl, rfl, by decide +kernel, rfl, by decide +kernel, by decide +kernel⟩
theorem ok_lineI {f C : Addr} {fd : FuncData} (F : Fun K "__init__" "Line.__init__" s_Line_init f fd) (T : ClsT K mg C "Line" lineNames) : FnOk P w K mg base CX0 1 f fd ["self", "form", "words", "test"] (spLineI C) := by
  refine F.ok scLineI (fun vs H Q E h => ?_) (fun cdv A outer s H vs Q E hr h => ?_)
  · obtain ⟨p, dx, f, vw, vt, rfl, _⟩ := h
    rfl
  · obtain ⟨p, dx, fo, vw, vt, rfl, hp, k⟩ := h
    refine ⟨_, pss_cons (ps_fld (pv 0) (pv 1) rfl) (pss_cons (ps_fld (pv 0) (pv 2) rfl) (pss_cons (ps_fld (pv 0) (pv 3) rfl) (pss_cons (ps_fld (pv 0) pe_int rfl) (pss_cons (ps_fld (pv 0) pe_int rfl) (pss_cons (ps_fld (pv 0) pe_int rfl) (pss_cons (ps_fld (pv 0) pe_int rfl) (pss_cons (ps_fld (pv 0) pe_int rfl) (pss_one (ps_fld (pv 0) pe_int rfl))))))))), ?_⟩
    refine ⟨_, rfl, _, rfl, p, C, dx, _, rfl, hp, T.cl, T.no _ (by simp [lineNames]), lt1000 nil_lt, _, rfl, _, rfl, p, C, dx, _, rfl, upd_same, T.cl, T.no _ (by simp [lineNames]), lt1000 (putF_lt (nil_lt)), _, rfl, _, rfl, p, C, dx, _, rfl, upd_same, T.cl, T.no _ (by simp [lineNames]), lt1000 (putF_lt (putF_lt (nil_lt))), _, rfl, p, C, dx, _, rfl, upd_same, T.cl, T.no _ (by simp [lineNames]), lt1000 (putF_lt (putF_lt (putF_lt (nil_lt)))), _, rfl, p, C, dx, _, rfl, upd_same, T.cl, T.no _ (by simp [lineNames]), lt1000 (putF_lt (putF_lt (putF_lt (putF_lt (nil_lt))))), _, rfl, p, C, dx, _, rfl, upd_same, T.cl, T.no _ (by simp [lineNames]), lt1000 (putF_lt (putF_lt (putF_lt (putF_lt (putF_lt (nil_lt)))))), _, rfl, p, C, dx, _, rfl, upd_same, T.cl, T.no _ (by simp [lineNames]), lt1000 (putF_lt (putF_lt (putF_lt (putF_lt (putF_lt (putF_lt (nil_lt))))))), _, rfl, p, C, dx, _, rfl, upd_same, T.cl, T.no _ (by simp [lineNames]), lt1000 (putF_lt (putF_lt (putF_lt (putF_lt (putF_lt (putF_lt (putF_lt (nil_lt)))))))), _, rfl, p, C, dx, _, rfl, upd_same, T.cl, T.no _ (by simp [lineNames]), lt1000 (putF_lt (putF_lt (putF_lt (putF_lt (putF_lt (putF_lt (putF_lt (putF_lt (nil_lt))))))))), ?_⟩
    rw [upd_upd, upd_upd, upd_upd, upd_upd, upd_upd, upd_upd, upd_upd, upd_upd, ln_made]
    exact k
end
end K40

namespace K40
open PySem PySem.Spec PyProof.Rows L2
theorem DpAll.drop {K : PySem.W.Frag} {H : Hp} : ∀ {vs : List V} {ds : List PyData} (i : Nat), DpAll K H vs ds → DpAll K H (vs.drop i) (ds.drop i)
  | _, _, 0, h => h
  | _, _, _ + 1, .nil => .nil
  | _, _, i + 1, .cons _ t => DpAll.drop i t
theorem DpAll.take {K : PySem.W.Frag} {H : Hp} : ∀ {vs : List V} {ds : List PyData} (i : Nat), DpAll K H vs ds → DpAll K H (vs.take i) (ds.take i)
  | _, _, 0, _ => .nil
  | _, _, _ + 1, .nil => .nil
  | _, _, i + 1, .cons h t => .cons h (DpAll.take i t)
theorem DpAll.append {K : PySem.W.Frag} {H : Hp} : ∀ {vs us : List V} {ds es : List PyData}, DpAll K H vs ds → DpAll K H us es → DpAll K H (vs ++ us) (ds ++ es)
  | _, _, _, _, .nil, h => h
  | _, _, _, _, .cons x t, h => .cons x (DpAll.append t h)
end K40
namespace L2
open PySem PySem.Spec PyProof.Rows
section
variable {K : PySem.W.Frag} {H : Hp} {Q : VK}
theorem tup_ok {vs : List V} {ds : List PyData} (h : DpAll K H vs ds) (hl : vs.length ≤ 2000) (k : ∀ v H', Same H H' → Dp K H' v (.tuple ds) → Q v H') : vs.length ≤ sizeLine ∧ ∀ p, H p = none → Q (.ref p) (upd H p (.tup vs)) :=
  ⟨Nat.le_trans hl (by decide), fun p hp => k _ _ (same_upd hp) (.tup (SqT.of upd_same) (DpAll.keep (same_upd hp) h))⟩
theorem lst_ok {vs : List V} {ds : List PyData} (h : DpAll K H vs ds) (hl : vs.length ≤ 2000) (k : ∀ v H', Same H H' → Dp K H' v (.list ds) → Q v H') : vs.length ≤ sizeLine ∧ ∀ p, H p = none → Q (.ref p) (upd H p (.lst vs)) :=
  ⟨Nat.le_trans hl (by decide), fun p hp => k _ _ (same_upd hp) (.lst (SqL.of upd_same) (DpAll.keep (same_upd hp) h))⟩
theorem catA_ok {x y : V} {dx dy : List PyData} (hx : Dp K H x (.tuple dx)) (hy : Dp K H y (.tuple dy)) (hl : dx.length + dy.length ≤ 2000) (k : ∀ v H', Same H H' → Dp K H' v (.tuple (dx ++ dy)) → Q v H') : rCatA K x y H Q := by
  obtain ⟨a, xs, rfl, qx, px⟩ := K40.dp_tup hx
  obtain ⟨b, ys, rfl, qy, py⟩ := K40.dp_tup hy
  have l1 := px.length
  have l2 := py.length
  refine ⟨a, b, xs, ys, rfl, rfl, qx, qy, Nat.le_trans (by omega) (by decide : 2000 ≤ sizeLine), fun e => ?_, fun _ e => ?_, fun _ _ p hp => ?_⟩
  · subst e
    cases px
    exact k _ _ (Same.refl _) hy
  · subst e
    cases py
    rw [← List.append_nil dx] at hx
    exact k _ _ (Same.refl _) hx
  · exact k _ _ (same_upd hp) (.tup (SqT.of upd_same) (DpAll.keep (same_upd hp) (K40.DpAll.append px py)))
end
end L2
namespace K40
open PySem PySem.Spec PyProof.Rows L2 Fm PySem.RingX
/-- a line stands at p -/
def LineAt (K : PySem.W.Frag) (C : Addr) (H : Hp) (p : Addr) (l : LineM) : Prop :=
  ∃ dx vw vt, H p = some (.ins C dx (lnF l.form vw vt l.loop l.opener l.turn l.ending l.thn l.oth)) ∧ Dp K H vw (strsD l.words) ∧ Dp K H vt (testD l.test)
theorem LineAt.keep {K : PySem.W.Frag} {C : Addr} {H H' : Hp} {p : Addr} {l : LineM} (x : LineAt K C H p l) (s : ExtT H H') (e : H' p = H p) : LineAt K C H' p l := by
  obtain ⟨dx, vw, vt, h1, h2, h3⟩ := x
  exact ⟨dx, vw, vt, e.trans h1, h2.keepT s (tOnly_strs _), h3.keepT s (tOnly_test _)⟩
theorem LineAt.same {K : PySem.W.Frag} {C : Addr} {H H' : Hp} {p : Addr} {l : LineM} (x : LineAt K C H p l) (s : Same H H') : LineAt K C H' p l := by
  obtain ⟨dx, vw, vt, h1, h2, h3⟩ := x
  exact ⟨dx, vw, vt, s _ _ h1, h2.keep s, h3.keep s⟩
def ifB : Stmt → List Stmt | .If _ b _ _ => b | _ => []
def nthS (l : List Stmt) (i : Nat) : Stmt := l.getD i (.Pass ⟨0, 0, 0, 0⟩)
section
variable {P : Program} {w : World} {K : PySem.W.Frag} {mg : Str → Option Value} {base : Heap}
/-- what the class Line wants and gives -/
structure LineC (P : Program) (w : World) (K : PySem.W.Frag) (mg : Str → Option Value) (base : Heap) (C : Addr) : Prop where
  t : ClsT K mg C "Line" lineNames
  mkr : ∃ fI fd, Mk K C fI ∧ FnOk P w K mg base CX0 1 fI fd ["self", "form", "words", "test"] (spLineI C) ∧ L2.Binds K fd ["self", "form", "words", "test"] []
def spLine (K : PySem.W.Frag) (C : Addr) : Sp := fun vs H Q _ => ∃ (text : Str) (b : Bool), vs = [.str text, .bl b] ∧ Asc text ∧ text.length ≤ 90000 ∧ (lineM text b = none → ∀ H', Same H H' → Q .non H') ∧
  ∀ l, lineM text b = some l → ∀ (p : Addr) (H' : Hp), H p = none → Same H H' → LineAt K C H' p l → Q (.ref p) H'
theorem scLine : FnScope ["text", "in_loop", "words", "test", "found"] ["text", "in_loop"] (defScope s_read_line) := ⟨rfl, rfl, rfl, by decide +kernel, rfl, by decide +kernel, by decide +kernel⟩
theorem ok_line {C : Addr} (R : Raw K mg "read_line" s_read_line ["text", "in_loop"]) (F0 : TopF K w mg) (LC : LineC P w K mg base C) (DT : Def P w K mg base CX0 "read_test" 6 ["words"] (spTest K)) (DF : Def P w K mg base CX0 "first_filled" 4 ["forms", "words"] (spFirst K)) : Def P w K mg base CX0 "read_line" 7 ["text", "in_loop"] (spLine K C) := by
  obtain ⟨aW, gW, hW⟩ := F0.writes
  obtain ⟨aO, gO, hO⟩ := F0.outer
  obtain ⟨aL, gL, hL⟩ := F0.loop
  obtain ⟨fT, dT, GT, gT, kT, bT⟩ := DT
  obtain ⟨fF, dF, GF, gF, kF, bF⟩ := DF
  obtain ⟨TL, fI, dI, M, GI, bI⟩ := LC
  refine R.def fun f fd F => F.ok scLine (fun vs H Q E h => ?_) (fun cdv A outer s H vs Q E hr h => ?_)
  · obtain ⟨text, b, rfl, _⟩ := h
    rfl
  · obtain ⟨text, b, rfl, ha, hlen, k0, k1⟩ := h
    have hr4 : Room 4 _ := hr.mono (by decide)
    have hr2 : Room (1 + 1) _ := hr.mono (by decide)
    obtain ⟨sp1, sp2, sp3⟩ := split_parts (sep := " ") ha (by decide +kernel)
    -- what both ways hand back
    have made : ∀ (H3 : Hp) (vw vt : V) (fo : Str) (l : LineM), Same H H3 → lineM text b = some l → l = mkLine fo l.words l.test → Dp K H3 vw (strsD l.words) → Dp K H3 vt (testD l.test) →
        ∀ x dx, H3 x = none → H3 dx = none → dx ≠ x → (spLineI C (.ref x :: ([V.str fo, vw, vt] ++ [])) (upd (upd H3 dx (.own x)) x (.ins C dx [])) (fun v H2 => v = .non ∧ Q (.ref x) H2) E) := fun H3 vw vt fo l s3 hl el dw dt x dx hx hdx hne => by
      refine ⟨x, dx, fo, vw, vt, rfl, upd_same, rfl, ?_⟩
      have st : Same H3 (upd (upd (upd H3 dx (.own x)) x (.ins C dx [])) x (.ins C dx (lnF fo vw vt 0 0 0 0 0 0))) := fun q o hq => by
        rw [upd_ne (ne_of_none hq hx), upd_ne (ne_of_none hq hx), upd_ne (ne_of_none hq hdx)]; exact hq
      have hx0 : H x = none := by
        cases e : H x with
        | none => rfl
        | some o => rw [s3 _ _ e] at hx; cases hx
      refine k1 l hl x _ hx0 (s3.trans st) ⟨dx, vw, vt, ?_, dw.keep st, dt.keep st⟩
      rw [upd_same, el]; rfl
    obtain ⟨tB, pB, qB⟩ : ∃ tB, PSs (cxOf CX0 P w K mg base ["text", "in_loop", "words", "test", "found"] "read_line" (defScope s_read_line) f cdv A outer s H E).nox (ifB (nthS (defBody s_read_line) 1)) tB ∧
        ∀ (p1 : Addr) (H1 : Hp) (D : Ends), D.rt = Q → SqL K H1 p1 ((Txt.split text " ").map V.str) → Same H H1 → lineM text b = ((testM ((Txt.split text " ").drop 1)).map fun t => mkLine ((Txt.split text " ").headD "") [] t) → tB D [some (.str text), some (.bl b), some (.ref p1), none, none] H1 := by
      refine ⟨_, pss_cons (ps_set (i := 3) scLine.nd rfl (Or.inl rfl) (pe_call GT hr (by rfl) gT kT bT .nil pass0 (pa_cons (pe_slice sl_list (pv 2) (po_some pe_int) po_none) pa_nil)))
        (pss_one (ps_ret (pe_ifExp (pt_cmpR op_isN (pv 3) pe_non (nomark _)) pe_non (pe_make M GI hr2 (by rfl) TL.gC bI .nil pass0 (pa_cons (pe_ix ix_list (pv 2) pe_int (fun _ _ => rfl)) (pa_cons (pe_tup pa_nil) (pa_cons (pv 3) pa_nil))))))), ?_⟩
      intro p1 H1 D hD sq s1 el
      generalize hws : Txt.split text " " = ws at *
      obtain ⟨h, r, rfl⟩ : ∃ h r, ws = h :: r := by
        cases ws with
        | nil => exact absurd sp3 (by decide)
        | cons h r => exact ⟨h, r, rfl⟩
      refine ⟨_, rfl, 1, rfl, p1, _, rfl, sq, fun p2 hp2 => ⟨p2, r, rfl, SqL.of (by rw [upd_same, cut_from]; rfl), fun x hx => (sp1 x (List.mem_cons_of_mem _ hx)).1, by rw [List.length_cons] at sp2; omega, fun v H2 s2 d2 => ?_⟩⟩
      have s02 := (s1.trans (same_upd hp2)).trans s2
      refine ⟨_, rfl, rfl, _, rfl, ?_⟩
      have el : lineM text b = (testM r).map fun t => mkLine h [] t := el
      cases ht : testM r with
      | none =>
        rw [ht] at d2 el
        cases d2
        refine ifT (by rfl) ?_
        rw [hD]
        exact k0 el _ s02
      | some t =>
        rw [ht] at d2 el
        obtain ⟨at_, vs, rfl, sqt, dpt⟩ := dp_tup d2
        refine ifF (by rfl) ⟨_, rfl, p1, _, 0, .str h, rfl, rfl, ((same_upd hp2).trans s2).seq sq, atI_nat (j := 0) rfl, (by show 0 ≤ sizeLine; decide), fun q hq => ⟨_, rfl, fun x dx hx hdx hne => ?_⟩⟩
        rw [hD]
        exact made _ (.ref q) (.ref at_) h _ (s02.trans (same_upd hq)) el rfl (.tup (SqT.of upd_same) .nil) (d2.keep (same_upd hq)) x dx hx hdx hne
    obtain ⟨tE, pE, qE⟩ : ∃ tE, PSs (cxOf CX0 P w K mg base ["text", "in_loop", "words", "test", "found"] "read_line" (defScope s_read_line) f cdv A outer s H E).nox ((defBody s_read_line).drop 3) tE ∧
        ∀ (p1 : Addr) (fs : List (Str × Str)) (v : V) (H3 : Hp), lineM text b = ((firstM fs (Txt.split text " ")).map fun p => mkLine p.1 p.2 []) → Same H H3 → Dp K H3 v (foundD (firstM fs (Txt.split text " "))) → tE { nx := fun _ H' => Q .non H', rt := Q } [some (.str text), some (.bl b), some (.ref p1), none, some v] H3 := by
      refine ⟨_, pss_one (ps_ret (pe_ifExp (pt_cmpR op_isN (pv 4) pe_non (nomark _)) pe_non (pe_make M GI hr2 (by rfl) TL.gC bI .nil pass0 (pa_cons (pe_ix ix_tup (pv 4) pe_int (fun _ _ => rfl)) (pa_cons (pe_ix ix_tup (pv 4) pe_int (fun _ _ => rfl)) (pa_cons (pe_tup pa_nil) pa_nil)))))), ?_⟩
      intro p1 fs v H3 el s3 d3
      refine ⟨_, rfl, rfl, _, rfl, ?_⟩
      cases hf : firstM fs (Txt.split text " ") with
      | none =>
        rw [hf] at d3 el
        cases d3
        exact ifT (by rfl) (k0 el _ s3)
      | some p =>
        rw [hf] at d3 el
        obtain ⟨t, vs, rfl, sqt, dt⟩ := dp_tup d3
        cases dt with
        | cons h1 dt => cases dt with
          | cons h2 dt =>
            cases dt
            cases dp_str h1
            refine ifF (by rfl) ⟨_, rfl, t, _, 0, _, rfl, rfl, sqt, rfl, _, rfl, t, _, 1, _, rfl, rfl, sqt, rfl, (by show 0 ≤ sizeLine; decide), fun q hq => ?_⟩
            intro x dx hx hdx hne
            exact made _ _ _ p.1 _ (s3.trans (same_upd hq)) el rfl (h2.keep (same_upd hq)) (.tup (SqT.of upd_same) .nil) x dx hx hdx hne
    obtain ⟨tR, pR, qR⟩ : ∃ tR, PSs (cxOf CX0 P w K mg base ["text", "in_loop", "words", "test", "found"] "read_line" (defScope s_read_line) f cdv A outer s H E).nox ((defBody s_read_line).drop 2) tR ∧
        ∀ (p1 : Addr) (H1 : Hp), SqL K H1 p1 ((Txt.split text " ").map V.str) → Same H H1 → lineM text b = ((firstM (WR ++ if b = true then LL else OL) (Txt.split text " ")).map fun p => mkLine p.1 p.2 []) → tR { nx := fun _ H' => Q .non H', rt := Q } [some (.str text), some (.bl b), some (.ref p1), none, none] H1 := by
      refine ⟨_, pss_cons (ps_set (i := 4) scLine.nd rfl (Or.inl rfl) (pe_call GF hr4 (by rfl) gF kF bF .nil pass0 (pa_cons (pe_op op_catA (pe_glob (v := .ref aW) (by rfl) gW rfl) (pe_ifExp (pt_val (pv 1)) (pe_glob (v := .ref aL) (by rfl) gL rfl) (pe_glob (v := .ref aO) (by rfl) gO rfl))) (pa_cons (pv 2) pa_nil)))) pE, ?_⟩
      intro p1 H1 sq s1 el
      have asc : ∀ x ∈ Txt.split text " ", Asc x := fun x hx => (sp1 x hx).1
      refine ⟨_, rfl, b, rfl, ?_⟩
      have eD : ∀ fs gs : List (Str × Str), formsD (fs ++ gs) = .tuple ((fs.map fun p => PyData.tuple [.str p.1, .str p.2]) ++ gs.map fun p => PyData.tuple [.str p.1, .str p.2]) := fun fs gs => by unfold formsD; rw [List.map_append]
      cases b with
      | true =>
        refine iteT ?_
        unfold tC
        refine catA_ok (hW H1) (hL H1) (by rw [List.length_map, List.length_map]; decide) fun v H2 s2 d2 => ?_
        rw [← eD] at d2
        exact ⟨_, rfl, v, WR ++ LL, p1, _, rfl, d2, forms_short.2.2, s2.seq sq, asc, by omega, fun v' H3 s3 d3 => qE p1 (WR ++ LL) v' H3 el ((s1.trans s2).trans s3) d3⟩
      | false =>
        refine iteF ?_
        unfold tC
        refine catA_ok (hW H1) (hO H1) (by rw [List.length_map, List.length_map]; decide) fun v H2 s2 d2 => ?_
        rw [← eD] at d2
        exact ⟨_, rfl, v, WR ++ OL, p1, _, rfl, d2, forms_short.2.1, s2.seq sq, asc, by omega, fun v' H3 s3 d3 => qE p1 (WR ++ OL) v' H3 el ((s1.trans s2).trans s3) d3⟩
    refine ⟨_, pss_cons (ps_set (i := 2) scLine.nd rfl (Or.inl rfl) (pe_split (pv 0) pe_str))
      (pss_cons (ps_if (PW.pt (pw_or (pt_cmpR op_eq (pe_ix ix_list (pv 2) pe_int (fun _ _ => rfl)) pe_str (nomark _)) (pw_or1 (PW.pt (pw_and (pt_cmpR op_eq (pe_ix ix_list (pv 2) pe_int (fun _ _ => rfl)) pe_str (nomark _)) (pw_and1 (pt_not (pt_val (pv 1)))))))))
        pB pss_nil) pR), ?_⟩
    refine ⟨_, rfl, ⟨_, rfl⟩, text, " ", rfl, rfl, by decide, by rw [sizeLine_eq]; omega, fun p1 hp1 => ?_⟩
    have s1 := same_upd (o := .lst ((Txt.split text " ").map V.str)) hp1
    have sq : SqL K (upd H p1 (.lst ((Txt.split text " ").map V.str))) p1 ((Txt.split text " ").map V.str) := SqL.of upd_same
    obtain ⟨h, r, hws⟩ : ∃ h r, Txt.split text " " = h :: r := by
      cases e : Txt.split text " " with
      | nil => rw [e] at sp3; exact absurd sp3 (by decide)
      | cons h r => exact ⟨h, r, rfl⟩
    have at0 : atI ((Txt.split text " ").map V.str) 0 = some (V.str h) := by rw [hws]; exact atI_nat (j := 0) rfl
    have hd : (Txt.split text " ").headD "" = h := by rw [hws]; rfl
    have eM : lineM text b = if h = "if" ∨ (h = "walk" ∧ b = false) then ((testM ((Txt.split text " ").drop 1)).map fun t => mkLine ((Txt.split text " ").headD "") [] t) else ((firstM (WR ++ if b = true then LL else OL) (Txt.split text " ")).map fun p => mkLine p.1 p.2 []) := by
      unfold lineM
      dsimp only
      rw [hd]
    refine ⟨_, rfl, p1, _, 0, .str h, rfl, rfl, sq, at0, rfl, _, rfl, ?_⟩
    by_cases c1 : h = "if"
    · rw [if_pos (.inl c1)] at eM
      exact ifT (decide_eq_true (congrArg V.str c1)) (iteT (qB p1 _ _ rfl sq s1 eM))
    · refine ifF (decide_eq_false fun z => c1 (V.str.inj z)) ⟨_, rfl, p1, _, 0, .str h, rfl, rfl, sq, at0, rfl, _, rfl, ?_⟩
      by_cases c2 : h = "walk"
      · refine ifT (decide_eq_true (congrArg V.str c2)) ⟨_, rfl, b, rfl, ?_⟩
        cases b with
        | false =>
          rw [if_pos (.inr ⟨c2, rfl⟩)] at eM
          exact iteT (qB p1 _ _ rfl sq s1 eM)
        | true =>
          rw [if_neg (by rintro (z | z); exact c1 z; cases z.2)] at eM
          exact iteF (qR p1 _ sq s1 eM)
      · rw [if_neg (by rintro (z | z); exact c1 z; exact c2 z.1)] at eM
        exact ifF (decide_eq_false fun z => c2 (V.str.inj z)) (iteF (qR p1 _ sq s1 eM))
end
end K40

/-! ## The lines of a code, read and linked -/
namespace Fm
open PySem PySem.Spec PyProof.Rows L2
def noLine : LineM := mkLine "" [] []
def lineAt (Ls : List LineM) (n : Nat) : LineM := Ls.getD (n - 1) noLine
def aroundM (Ls : List LineM) : List Nat → Nat
  | [] => 0
  | n :: r => if (lineAt Ls n).form = "walk" then n else aroundM Ls r
def turnM (word : Str) (n : Nat) (Ls : List LineM) (op : List Nat) : Option (List LineM × LineM) :=
  match op.getLast? with
  | none => none
  | some k =>
    if word = "end" then some (Ls.set (k - 1) { lineAt Ls k with ending := n }, { mkLine word [] [] with opener := k })
    else if (lineAt Ls k).form = "if" ∧ (lineAt Ls k).turn = 0 then some (Ls.set (k - 1) { lineAt Ls k with turn := n }, { mkLine word [] [] with opener := k })
    else none
def isTurn (text : Str) : Bool := inV (.str text) [.str "else", .str "end"]
def oneM (text : Str) (n : Nat) (Ls : List LineM) (op : List Nat) : Option (List LineM × LineM) :=
  if isTurn text = true then turnM text n Ls op else (lineM text (decide (aroundM Ls op ≠ 0))).map fun l => (Ls, l)
def opensM (f : Str) : Bool := inV (.str f) [.str "if", .str "walk"]
def openedM (f : Str) (n : Nat) (op : List Nat) : List Nat := if f = "end" then op.dropLast else if opensM f = true then op ++ [n] else op
def stepM (text : Str) (n : Nat) (Ls : List LineM) (op : List Nat) : Option (List LineM × List Nat) :=
  match oneM text n Ls op with
  | none => none
  | some q => some (q.1 ++ [{ q.2 with loop := aroundM Ls op }], openedM q.2.form n op)
def goM : List Str → Nat → List LineM → List Nat → Except Nat (List LineM × List Nat)
  | [], _, Ls, op => .ok (Ls, op)
  | t :: r, n, Ls, op => match stepM t n Ls op with
    | none => .error n
    | some q => goM r (n + 1) q.1 q.2
def linesM (texts : List Str) : Except Nat (List LineM) :=
  match goM texts 1 [] [] with
  | .error n => .error n
  | .ok q => if q.2.length > 0 then .error (texts.length + 1) else .ok q.1
/-- where a play lands; none: not within so many steps, or out of the lines -/
def landM : Nat → List LineM → Nat → Option Nat
  | 0, _, _ => none
  | k + 1, Ls, n =>
    if n = 0 then none
    else if n ≤ Ls.length ∧ isTurn (lineAt Ls n).form = true then
      (if 1 ≤ (lineAt Ls n).opener ∧ (lineAt Ls n).opener ≤ Ls.length then
        (if (lineAt Ls (lineAt Ls n).opener).form = "walk" then some (lineAt Ls n).opener
        else landM k Ls ((lineAt Ls (lineAt Ls n).opener).ending + 1))
      else none)
    else some n
def linkM (k : Nat) (Ls : List LineM) (n : Nat) : Option (List LineM) :=
  let l := lineAt Ls n
  match landM k Ls (n + 1) with
  | none => none
  | some t =>
    if l.form = "quit" then some (Ls.set (n - 1) { l with thn := Ls.length + 1 })
    else if l.form = "stop" then
      (if 1 ≤ l.loop ∧ l.loop ≤ Ls.length then (landM k Ls ((lineAt Ls l.loop).ending + 1)).map fun u => Ls.set (n - 1) { l with thn := u } else none)
    else if l.form = "walk" then (landM k Ls (l.ending + 1)).map fun u => Ls.set (n - 1) { l with thn := t, oth := u }
    else if l.form = "if" then (landM k Ls (if l.turn = 0 then l.ending else l.turn + 1)).map fun u => Ls.set (n - 1) { l with thn := t, oth := u }
    else some (Ls.set (n - 1) { l with thn := t })
def linkAll (k : Nat) : Nat → Nat → List LineM → Option (List LineM)
  | 0, _, Ls => some Ls
  | m + 1, n, Ls => match linkM k Ls n with | none => none | some Ls' => linkAll k m (n + 1) Ls'
def programM (k : Nat) (texts : List Str) : Option (Except Nat (List LineM)) :=
  match linesM texts with
  | .error n => some (.error n)
  | .ok Ls => (linkAll k Ls.length 1 Ls).map .ok
def Tx (s : String) : List Str := Txt.split s "\n"
example : (programM 100 (Tx "at = first\nwalk not at is empty\nif at is key\nkeep out\nstop\nend\ngo\nend")).isSome = true := by decide +kernel
example : (match programM 100 (Tx "at = first\nwalk not at is empty\nif at is key\nkeep out\nstop\nend\ngo\nend") with | some (.ok Ls) => Ls.map (fun l => (l.thn, l.oth)) | _ => []) = [(2, 0), (3, 9), (4, 7), (5, 0), (9, 0), (7, 0), (2, 0), (9, 0)] := by decide +kernel
end Fm

namespace K40
open PySem PySem.Spec PyProof.Rows L2 Fm PySem.RingX
/-- the lines' objects -/
structure Objs (K : PySem.W.Frag) (C : Addr) (H : Hp) (ps : List Addr) (Ls : List LineM) : Prop where
  len : ps.length = Ls.length
  each : ∀ (i : Nat) (p : Addr) (l : LineM), ps[i]? = some p → Ls[i]? = some l → LineAt K C H p l
  nd : ps.Nodup
section
variable {K : PySem.W.Frag} {C : Addr} {H H' : Hp} {ps : List Addr} {Ls : List LineM}
theorem Objs.at_ (x : Objs K C H ps Ls) {n : Nat} (h1 : 1 ≤ n) (h2 : n ≤ Ls.length) : ∃ p, ps[n - 1]? = some p ∧ p ∈ ps ∧ LineAt K C H p (lineAt Ls n) := by
  have hi : n - 1 < ps.length := by rw [x.len]; omega
  have hl : n - 1 < Ls.length := by omega
  refine ⟨ps[n - 1], List.getElem?_eq_getElem hi, List.getElem_mem hi, x.each (n - 1) _ _ (List.getElem?_eq_getElem hi) ?_⟩
  unfold lineAt
  rw [List.getD_eq_getElem?_getD, List.getElem?_eq_getElem hl]; rfl
theorem Objs.same (x : Objs K C H ps Ls) (s : Same H H') : Objs K C H' ps Ls := ⟨x.len, fun i p l h1 h2 => (x.each i p l h1 h2).same s, x.nd⟩
theorem Objs.ins (x : Objs K C H ps Ls) {p : Addr} (h : p ∈ ps) : ∃ dx fs, H p = some (.ins C dx fs) := by
  obtain ⟨i, hi, e⟩ := List.getElem_of_mem h
  obtain ⟨dx, _, _, h1, _⟩ := x.each i p (Ls[i]'(by rw [← x.len]; exact hi)) (by rw [List.getElem?_eq_getElem hi, e]) (List.getElem?_eq_getElem _)
  exact ⟨dx, _, h1⟩
theorem Objs.off (x : Objs K C H ps Ls) {p : Addr} (h : H p = none) : p ∉ ps := fun m => by
  obtain ⟨_, _, e⟩ := x.ins m
  rw [e] at h; cases h
theorem Objs.offL (x : Objs K C H ps Ls) {p : Addr} {xs : List V} (h : H p = some (.lst xs)) : p ∉ ps := fun m => by
  obtain ⟨_, _, e⟩ := x.ins m
  rw [e] at h; cases h
/-- a change elsewhere -/
theorem Objs.keep (x : Objs K C H ps Ls) (s : ExtT H H') (e : ∀ p ∈ ps, H' p = H p) : Objs K C H' ps Ls := ⟨x.len, fun i p l h1 h2 => (x.each i p l h1 h2).keep s (e p (List.mem_of_getElem? h1)), x.nd⟩
theorem Objs.updL (x : Objs K C H ps Ls) {p : Addr} {xs : List V} {o : HO} (h : H p = some (.lst xs)) : Objs K C (upd H p o) ps Ls := x.keep (ExtT.lst h) fun q hq => upd_ne fun e => x.offL h (e ▸ hq)
/-- one line is changed -/
theorem Objs.set {n : Nat} {p dx : Addr} {vw vt : V} {l : LineM} (x : Objs K C H ps Ls) (h1 : 1 ≤ n) (h2 : n ≤ Ls.length) (hp : ps[n - 1]? = some p)
    (hw : Dp K H vw (strsD l.words)) (ht : Dp K H vt (testD l.test)) : Objs K C (upd H p (.ins C dx (lnF l.form vw vt l.loop l.opener l.turn l.ending l.thn l.oth))) ps (Ls.set (n - 1) l) := by
  obtain ⟨dx0, fs0, hi⟩ := x.ins (List.mem_of_getElem? hp)
  have ext : ExtT H (upd H p (.ins C dx (lnF l.form vw vt l.loop l.opener l.turn l.ending l.thn l.oth))) := ExtT.ins hi
  refine ⟨by rw [List.length_set]; exact x.len, fun i q m g1 g2 => ?_, x.nd⟩
  by_cases c : i = n - 1
  · subst c
    rw [hp] at g1
    cases g1
    rw [List.getElem?_set_self (by omega)] at g2
    cases g2
    exact ⟨dx, vw, vt, upd_same, hw.keepT ext (tOnly_strs _), ht.keepT ext (tOnly_test _)⟩
  · rw [List.getElem?_set_ne (Ne.symm c)] at g2
    have qp : q ≠ p := fun z => by
      subst z
      have i1 := (List.getElem?_eq_some_iff.mp g1).1
      have i2 := (List.getElem?_eq_some_iff.mp hp).1
      have e1 := (List.getElem?_eq_some_iff.mp g1).2
      have e2 := (List.getElem?_eq_some_iff.mp hp).2
      exact c ((List.getElem_inj x.nd).mp (e1.trans e2.symm))
    exact (x.each i q m g1 g2).keep ext (upd_ne qp)
/-- a line more -/
theorem Objs.snoc {p : Addr} {l : LineM} (x : Objs K C H ps Ls) (h : LineAt K C H p l) (n : p ∉ ps) : Objs K C H (ps ++ [p]) (Ls ++ [l]) := by
  refine ⟨by rw [List.length_append, List.length_append, x.len]; rfl, fun i q m g1 g2 => ?_, List.nodup_append.mpr ⟨x.nd, by simp, fun a ha b hb => by rw [show b = p by simpa using hb]; exact fun e => n (e ▸ ha)⟩⟩
  rcases Nat.lt_or_ge i ps.length with c | c
  · rw [List.getElem?_append_left c] at g1
    rw [List.getElem?_append_left (by rw [← x.len]; exact c)] at g2
    exact x.each i q m g1 g2
  · rw [List.getElem?_append_right c] at g1
    rw [List.getElem?_append_right (by rw [← x.len]; exact c), ← x.len] at g2
    cases e : i - ps.length with
    | zero =>
      rw [e] at g1 g2
      cases g1; cases g2
      exact h
    | succ k => rw [e] at g1; cases g1
end
/-- all that is no line stands as before -/
def OffL (ps : List Addr) (H H' : Hp) : Prop := ∀ b u, b ∉ ps → H b = some u → H' b = some u
theorem OffL.refl (ps : List Addr) (H : Hp) : OffL ps H H := fun _ _ _ h => h
theorem OffL.of {ps : List Addr} {H H' : Hp} (s : Same H H') : OffL ps H H' := fun b u _ h => s b u h
theorem OffL.trans {ps : List Addr} {H H1 H2 : Hp} (x : OffL ps H H1) (y : OffL ps H1 H2) : OffL ps H H2 := fun b u n h => y b u n (x b u n h)
theorem OffL.upd {ps : List Addr} {H H1 : Hp} {p : Addr} {o : HO} (x : OffL ps H H1) (h : p ∈ ps) : OffL ps H (L2.upd H1 p o) := fun b u n e => by
  rw [upd_ne (fun z : b = p => n (by rw [z]; exact h))]; exact x b u n e
theorem OffL.new {ps : List Addr} {H H1 : Hp} {p : Addr} {o : HO} (x : OffL ps H H1) (h : H1 p = none) : OffL ps H (L2.upd H1 p o) := fun b u n e => by
  rw [upd_ne (ne_of_none (x b u n e) h)]; exact x b u n e
section
variable {P : Program} {w : World} {K : PySem.W.Frag} {mg : Str → Option Value} {base : Heap}
def spAround (K : PySem.W.Frag) (C : Addr) : Sp := fun vs H Q _ => ∃ (l o : Addr) (ps : List Addr) (Ls : List LineM) (op : List Nat), vs = [.ref l, .ref o] ∧ SqL K H l (ps.map V.ref) ∧ Objs K C H ps Ls ∧ SqL K H o (op.map fun n : Nat => V.int n) ∧ (∀ n ∈ op, 1 ≤ n ∧ n ≤ Ls.length) ∧ Q (.int (aroundM Ls op)) H
theorem scAround : FnScope ["lines", "opened", "number"] ["lines", "opened"] (defScope s_loop_around) := ⟨rfl, rfl, rfl, by decide +kernel, rfl, by decide +kernel, by decide +kernel⟩
theorem around_at {Ls : List LineM} {op : List Nat} {i n : Nat} (h : op[i]? = some n) : aroundM Ls (op.drop i) = if (lineAt Ls n).form = "walk" then n else aroundM Ls (op.drop (i + 1)) := by
  obtain ⟨hi, e⟩ := List.getElem?_eq_some_iff.mp h
  rw [List.drop_eq_getElem_cons hi, e]; rfl
theorem ok_around {C : Addr} (R : Raw K mg "loop_around" s_loop_around ["lines", "opened"]) (TL : ClsT K mg C "Line" lineNames) : Def P w K mg base CX0 "loop_around" 1 ["lines", "opened"] (spAround K C) := by
  refine R.def fun f fd F => F.ok scAround (fun vs H Q E h => ?_) (fun cdv A outer s H vs Q E hr h => ?_)
  · obtain ⟨l, o, ps, Ls, op, rfl, _⟩ := h
    rfl
  · obtain ⟨l, o, ps, Ls, op, rfl, sl, ob, so, hop, k⟩ := h
    refine ⟨_, pss_cons (ps_for PassesOwn.never rfl (pi_list (pv 1)) (pg_name (i := 2) scAround.nd rfl (Or.inl rfl))
        (pss_one (ps_if (pt_cmpR op_eq (pe_fld (pe_ix ix_list (pv 0) (pe_op op_sub (pv 2) pe_int) (fun _ _ => rfl)) rfl) pe_str (nomark _)) (pss_one (ps_ret (pv 2))) pss_nil)))
      (pss_one (ps_ret pe_int)), ?_⟩
    refine ⟨_, rfl, o, rfl, ⟨_, so⟩, for_list (K := K) (a := o) (xs := op.map fun n : Nat => V.int n) (fun i σ H' => (∃ x2, σ = [some (.ref l), some (.ref o), x2]) ∧ H' = H ∧ aroundM Ls op = aroundM Ls (op.drop i)) ⟨⟨_, rfl⟩, rfl, rfl⟩ (fun i σ H' _ h => by rw [h.2.1]; exact so) ?_ ?_⟩
    · rintro i x σ H' hx ⟨⟨x2, rfl⟩, rfl, e1⟩
      rw [List.getElem?_map] at hx
      obtain ⟨n, hn, rfl⟩ := Option.map_eq_some_iff.mp hx
      obtain ⟨b1, b2⟩ := hop n (List.mem_of_getElem? hn)
      obtain ⟨p, hp, _, dx, vw, vt, hl, _⟩ := ob.at_ b1 b2
      have e2 := e1.trans (around_at hn)
      refine ⟨_, rfl, _, rfl, _, _, rfl, rfl, l, _, _, .ref p, rfl, rfl, sl, ?_, p, C, dx, _, _, rfl, hl, TL.cl, TL.no _ (by simp [lineNames]), ln_form .., rfl, _, rfl, ?_⟩
      · rw [show (n : Int) - 1 = ((n - 1 : Nat) : Int) by omega]
        exact atI_nat (by rw [List.getElem?_map, hp]; rfl)
      · by_cases c : (lineAt Ls n).form = "walk"
        · rw [if_pos c] at e2
          rw [e2] at k
          exact ifT (decide_eq_true (congrArg V.str c)) ⟨_, rfl, k⟩
        · rw [if_neg c] at e2
          exact ifF (decide_eq_false fun z => c (V.str.inj z)) ⟨⟨_, rfl⟩, rfl, e2⟩
    · rintro σ H' ⟨⟨x2, rfl⟩, rfl, e1⟩
      rw [List.length_map, List.drop_length] at e1
      rw [e1] at k
      exact k
end
end K40

namespace K40
open PySem PySem.Spec PyProof.Rows L2 Fm PySem.RingX
theorem ln_small {f : Str} {vw vt : V} {lo op tu en th ot : Int} : (lnF f vw vt lo op tu en th ot).length < 1000 := by show 9 < 1000; decide
theorem OffL.ext {K : PySem.W.Frag} {C : Addr} {ps : List Addr} {H H' : Hp} {Ls : List LineM} (x : OffL ps H H') (o : Objs K C H ps Ls) : ExtT H H' := fun q u hu hq => by
  refine x q u (fun m => ?_) hq
  obtain ⟨dx, fs, e⟩ := o.ins m
  rw [hq] at e
  cases e
  rcases hu with ⟨_, z⟩ | ⟨_, _, z⟩ <;> cases z
theorem OffL.seqL {K : PySem.W.Frag} {C : Addr} {ps : List Addr} {H H' : Hp} {Ls : List LineM} {a : Addr} {xs : List V} (x : OffL ps H H') (o : Objs K C H ps Ls) (q : SqL K H a xs) : SqL K H' a xs := by
  have no : ∀ u, H a = some u → (∀ C dx fs, u ≠ .ins C dx fs) → a ∉ ps := fun u e n m => by
    obtain ⟨dx, fs, e2⟩ := o.ins m
    rw [e] at e2
    exact n _ _ _ (Option.some.inj e2)
  rcases q with (q | ⟨u, q⟩) | q
  · exact .inl (.inl (x _ _ (no _ q fun _ _ _ z => nomatch z) q))
  · exact .inl (.inr ⟨u, x _ _ (no _ q fun _ _ _ z => nomatch z) q⟩)
  · exact .inr q
section
variable {P : Program} {w : World} {K : PySem.W.Frag} {mg : Str → Option Value} {base : Heap}
def spTurn (K : PySem.W.Frag) (C : Addr) : Sp := fun vs H Q _ => ∃ (word : Str) (n : Nat) (l o : Addr) (ps : List Addr) (Ls : List LineM) (op : List Nat), vs = [.str word, .int n, .ref l, .ref o] ∧ SqL K H l (ps.map V.ref) ∧ Objs K C H ps Ls ∧ SqL K H o (op.map fun n : Nat => V.int n) ∧ (∀ n ∈ op, 1 ≤ n ∧ n ≤ Ls.length) ∧
  (turnM word n Ls op = none → Q .non H) ∧ ∀ Ls' ln, turnM word n Ls op = some (Ls', ln) → ∀ (p : Addr) (H' : Hp), H p = none → OffL ps H H' → Objs K C H' ps Ls' → LineAt K C H' p ln → Q (.ref p) H'
theorem scTurn : FnScope ["word", "number", "lines", "opened", "opener", "line"] ["word", "number", "lines", "opened"] (defScope s_read_turn) := ⟨rfl, rfl, rfl, by decide +kernel, rfl, by decide +kernel, by decide +kernel⟩
theorem ok_turn {C : Addr} (R : Raw K mg "read_turn" s_read_turn ["word", "number", "lines", "opened"]) (T : GB mg) (LC : LineC P w K mg base C) : Def P w K mg base CX0 "read_turn" 3 ["word", "number", "lines", "opened"] (spTurn K C) := by
  obtain ⟨TL, fI, dI, M, GI, bI⟩ := LC
  refine R.def fun f fd F => F.ok scTurn (fun vs H Q E h => ?_) (fun cdv A outer s H vs Q E hr h => ?_)
  · obtain ⟨word, n, l, o, ps, Ls, op, rfl, _⟩ := h
    rfl
  · obtain ⟨word, n, l, o, ps, Ls, op, rfl, sl, ob, so, hop, k0, k1⟩ := h
    obtain ⟨tR, pR, qR⟩ : ∃ tR, PSs (cxOf CX0 P w K mg base ["word", "number", "lines", "opened", "opener", "line"] "read_turn" (defScope s_read_turn) f cdv A outer s H E).nox ((defBody s_read_turn).drop 3) tR ∧
        ∀ (v4 : Option V) (H1 : Hp) (k : Nat) (Ls' : List LineM), op.getLast? = some k → OffL ps H H1 → Objs K C H1 ps Ls' → turnM word n Ls op = some (Ls', { mkLine word [] [] with opener := k }) → tR { nx := fun _ H' => Q .non H', rt := Q } [some (.str word), some (.int n), some (.ref l), some (.ref o), v4, none] H1 := by
      refine ⟨_, pss_cons (ps_set (i := 5) scTurn.nd rfl (Or.inl rfl) (pe_make M GI hr (by rfl) TL.gC bI .nil pass0 (pa_cons (pv 0) (pa_cons (pe_tup pa_nil) (pa_cons (pe_tup pa_nil) pa_nil)))))
        (pss_cons (ps_fld (pv 5) (pe_ix ix_list (pv 3) (pe_un un_neg pe_int) (fun _ _ => rfl)) rfl)
        (pss_one (ps_ret (pv 5)))), ?_⟩
      intro v4 H1 k Ls' hk off ob1 eT
      refine ⟨_, rfl, (by show 0 ≤ sizeLine; decide), fun q1 hq1 => ⟨(by show 0 ≤ sizeLine; decide), fun q2 hq2 => ?_⟩⟩
      intro x dx hx hdx hne
      have s1 := same_upd (o := .tup []) hq1
      have s2 := same_upd (o := .tup []) hq2
      have dw : Dp K (upd (upd H1 q1 (.tup [])) q2 (.tup [])) (.ref q1) (strsD []) := .tup (SqT.of (s2 _ _ upd_same)) .nil
      have dt : Dp K (upd (upd H1 q1 (.tup [])) q2 (.tup [])) (.ref q2) (testD []) := .tup (SqT.of upd_same) .nil
      refine ⟨x, dx, word, .ref q1, .ref q2, rfl, upd_same, rfl, ?_⟩
      have sm : ∀ fs, Same (upd (upd H1 q1 (.tup [])) q2 (.tup [])) (upd (upd (upd (upd (upd H1 q1 (.tup [])) q2 (.tup [])) dx (.own x)) x (.ins C dx [])) x (.ins C dx fs)) := fun fs b u hb => by
        rw [upd_ne (ne_of_none hb hx), upd_ne (ne_of_none hb hx), upd_ne (ne_of_none hb hdx)]; exact hb
      have so1 : SqL K (upd (upd (upd (upd (upd H1 q1 (.tup [])) q2 (.tup [])) dx (.own x)) x (.ins C dx [])) x (.ins C dx (lnF word (.ref q1) (.ref q2) 0 0 0 0 0 0))) o (op.map fun n : Nat => V.int n) := ((s1.trans s2).trans (sm _)).seq (off.seqL ob so)
      obtain ⟨op', eop⟩ := List.getLast?_eq_some_iff.mp hk
      refine ⟨_, rfl, _, rfl, o, _, -1, .int k, rfl, rfl, so1, by rw [eop, List.map_append]; exact atI_last _ _, _, rfl, x, C, dx, _, rfl, upd_same, TL.cl, TL.no _ (by simp [lineNames]), ln_small, _, rfl, ?_⟩
      rw [lp_opener, upd_upd]
      have hx1 : H1 x = none := by
        cases e : H1 x with
        | none => rfl
        | some u => rw [s2 _ _ (s1 _ _ e)] at hx; cases hx
      have smF : Same H1 (upd (upd (upd (upd (upd H1 q1 (.tup [])) q2 (.tup [])) dx (.own x)) x (.ins C dx [])) x (.ins C dx (lnF word (.ref q1) (.ref q2) 0 k 0 0 0 0))) := (s1.trans s2).trans (sm _)
      have hx0 : H x = none := by
        cases e : H x with
        | none => rfl
        | some u =>
          by_cases m : x ∈ ps
          · obtain ⟨_, _, e2⟩ := ob1.ins m
            rw [hx1] at e2; cases e2
          · rw [off x u m e] at hx1; cases hx1
      exact k1 Ls' _ eT x _ hx0 (off.trans (OffL.of smF)) (ob1.same smF) ⟨dx, .ref q1, .ref q2, by rw [upd_same]; rfl, dw.keep (sm _), dt.keep (sm _)⟩
    refine ⟨_, pss_cons (ps_if (pt_cmpR op_eq (pe_callB call_len_seq (by rfl) T.len PySem.boot_len (pa_cons (pv 3) pa_nil)) pe_int (nomark _)) (pss_one (ps_ret pe_non)) pss_nil)
      (pss_cons (ps_set (i := 4) scTurn.nd rfl (Or.inl rfl) (pe_ix ix_list (pv 2) (pe_op op_sub (pe_ix ix_list (pv 3) (pe_un un_neg pe_int) (fun _ _ => rfl)) pe_int) (fun _ _ => rfl)))
      (pss_cons (ps_if (pt_cmpR op_eq (pv 0) pe_str (nomark _)) (pss_one (ps_fld (pv 4) (pv 1) rfl))
        (pss_one (ps_if (PW.pt (pw_and (pt_cmpR op_eq (pe_fld (pv 4) rfl) pe_str (nomark _)) (pw_and1 (pt_cmpR op_eq (pe_fld (pv 4) rfl) pe_int (nomark _))))) (pss_one (ps_fld (pv 4) (pv 1) rfl)) (pss_one (ps_ret pe_non))))) pR)), ?_⟩
    refine ⟨_, rfl, o, _, rfl, .inl so, rfl, _, rfl, ?_⟩
    rw [List.length_map]
    cases hk : op.getLast? with
    | none =>
      have e0 : op = [] := List.getLast?_eq_none_iff.mp hk
      subst e0
      refine ifT (by decide) (k0 ?_)
      unfold turnM
      rw [hk]
    | some k =>
      obtain ⟨op', eop⟩ := List.getLast?_eq_some_iff.mp hk
      have hk1 := hop k (by rw [eop]; simp)
      obtain ⟨p, hp, pm, dx, vw, vt, hl, dw, dt⟩ := ob.at_ hk1.1 hk1.2
      refine ifF (decide_eq_false fun z => ?_) ?_
      · have := V.int.inj z
        rw [eop, List.length_append] at this
        simp at this
        omega
      refine ⟨_, rfl, _, rfl, _, rfl, o, _, -1, .int k, rfl, rfl, so, by rw [eop, List.map_append]; exact atI_last _ _, _, _, rfl, rfl, l, _, _, .ref p, rfl, rfl, sl, ?_, ?_⟩
      · rw [show (k : Int) - 1 = ((k - 1 : Nat) : Int) by omega]
        exact atI_nat (by rw [List.getElem?_map, hp]; rfl)
      have eT : turnM word n Ls op = if word = "end" then some (Ls.set (k - 1) { lineAt Ls k with ending := n }, { mkLine word [] [] with opener := k })
        else if (lineAt Ls k).form = "if" ∧ (lineAt Ls k).turn = 0 then some (Ls.set (k - 1) { lineAt Ls k with turn := n }, { mkLine word [] [] with opener := k })
        else none := by
        unfold turnM
        rw [hk]
      refine ⟨_, rfl, rfl, _, rfl, ?_⟩
      by_cases c1 : word = "end"
      · rw [if_pos c1] at eT
        refine ifT (decide_eq_true (congrArg V.str c1)) ⟨_, rfl, _, rfl, p, C, dx, _, rfl, hl, TL.cl, TL.no _ (by simp [lineNames]), ln_small, ?_⟩
        rw [lp_ending]
        exact qR _ _ k _ hk ((OffL.refl ps H).upd pm) (ob.set (l := { lineAt Ls k with ending := n }) hk1.1 hk1.2 hp dw dt) eT
      · rw [if_neg c1] at eT
        refine ifF (decide_eq_false fun z => c1 (V.str.inj z)) ⟨_, rfl, p, C, dx, _, _, rfl, hl, TL.cl, TL.no _ (by simp [lineNames]), ln_form .., rfl, _, rfl, ?_⟩
        by_cases c2 : (lineAt Ls k).form = "if"
        · refine ifT (decide_eq_true (congrArg V.str c2)) ⟨_, rfl, p, C, dx, _, _, rfl, hl, TL.cl, TL.no _ (by simp [lineNames]), ln_turn .., rfl, _, rfl, ?_⟩
          by_cases c3 : (lineAt Ls k).turn = 0
          · rw [if_pos ⟨c2, c3⟩] at eT
            refine ifT (decide_eq_true (by rw [c3]; rfl)) ⟨_, rfl, _, rfl, p, C, dx, _, rfl, hl, TL.cl, TL.no _ (by simp [lineNames]), ln_small, ?_⟩
            rw [lp_turn]
            exact qR _ _ k _ hk ((OffL.refl ps H).upd pm) (ob.set (l := { lineAt Ls k with turn := n }) hk1.1 hk1.2 hp dw dt) eT
          · rw [if_neg (fun z => c3 z.2)] at eT
            exact ifF (decide_eq_false fun z => c3 (by have := V.int.inj z; omega)) (k0 eT)
        · rw [if_neg (fun z => c2 z.1)] at eT
          exact ifF (decide_eq_false fun z => c2 (V.str.inj z)) (iteF (k0 eT))
end
end K40

namespace L2
open PySem PySem.Spec PyProof.Rows
theorem for_enumS {K : PySem.W.Frag} {a : Addr} {k : Int} {xs : List V} {g : TG} {tb : TS} {D : Ends} {σ : L2.St} {H : Hp} (Pv : Nat → L2.St → Hp → Prop) (h0 : Pv 0 σ H) (hl : ∀ i σ H, i ≤ xs.length → Pv i σ H → SqL K H a xs)
    (hs : ∀ i x T σ H, xs[i]? = some x → Pv i σ H → H T = none → g (.ref T) σ (upd H T (.tup [.int (k + (i : Nat)), x])) fun σ2 H2 => tb { D with nx := Pv (i + 1), ct := Pv (i + 1), bk := D.nx } σ2 H2) (hd : ∀ σ H, Pv xs.length σ H → D.nx σ H) :
    ∃ W : Nat → Nat → L2.St → Hp → Prop, (∃ m, W 0 m σ H) ∧ ∀ i m σ H, W i m σ H →
      ((IteS K a k).stop i H ∧ D.nx σ H) ∨ ((IteS K a k).go i H ∧ ∃ N : L2.St → Hp → Prop, (∀ σ' H', N σ' H' → ∃ m', m' < m ∧ W (i + 1) m' σ' H') ∧ ∀ x H', (IteS K a k).yld i H x H' → g x σ H' fun σ2 H2 => tb { D with nx := N, ct := N, bk := D.nx } σ2 H2) := by
  refine ⟨fun i m σ H => m = xs.length - i ∧ i ≤ xs.length ∧ Pv i σ H, ⟨xs.length, by simp, Nat.zero_le _, h0⟩, ?_⟩
  rintro i m σ H ⟨rfl, hi, p⟩
  have q := hl i σ H hi p
  by_cases hlt : i < xs.length
  · refine .inr ⟨⟨xs, xs[i], q, by simp [hlt]⟩, Pv (i + 1), fun σ' H' p' => ⟨xs.length - (i + 1), by omega, rfl, hlt, p'⟩, fun x H' y => ?_⟩
    obtain ⟨T, v, rfl, hT, rfl, y⟩ := y
    exact hs i v T σ H (y xs q) p hT
  · have e : i = xs.length := by omega
    subst e
    exact .inl ⟨⟨xs, q, Nat.le_refl _⟩, hd σ H p⟩
end L2
namespace K40
open PySem PySem.Spec PyProof.Rows L2 Fm PySem.RingX
/-- the errors of codes -/
structure EXC (P : Program) (K : PySem.W.Frag) (mg : Str → Option Value) (CL fL : Addr) : Prop where
  line : ExTxt P K mg CL fL "BadLine" ["line"]
def forB : Stmt → List Stmt | .For _ _ b _ _ => b | _ => []
theorem Same.offL {H H1 H2 : Hp} {ps : List Addr} (s : Same H H1) (o : OffL ps H1 H2) (n : ∀ p ∈ ps, H p = none) : Same H H2 := fun b u e => o b u (fun m => by rw [n b m] at e; cases e) (s b u e)
theorem goM_step {texts : List Str} {i n : Nat} {t : Str} {Ls : List LineM} {op : List Nat} (h : texts[i]? = some t) : goM (texts.drop i) n Ls op = match stepM t n Ls op with | none => .error n | some q => goM (texts.drop (i + 1)) (n + 1) q.1 q.2 := by
  obtain ⟨hi, e⟩ := List.getElem?_eq_some_iff.mp h
  rw [List.drop_eq_getElem_cons hi, e]; rfl
theorem turnM_len {word : Str} {n : Nat} {Ls Ls' : List LineM} {op : List Nat} {ln : LineM} (h : turnM word n Ls op = some (Ls', ln)) : Ls'.length = Ls.length := by
  unfold turnM at h
  split at h
  · cases h
  · split at h
    · cases h; rw [List.length_set]
    · split at h
      · cases h; rw [List.length_set]
      · cases h
theorem lineM_form {text : Str} {b : Bool} {l : LineM} (h : lineM text b = some l) : l.form ≠ "end" := by
  unfold lineM at h
  dsimp only at h
  split at h
  · rename_i c
    cases ht : testM ((Txt.split text " ").drop 1) with
    | none => rw [ht] at h; cases h
    | some t =>
      rw [ht] at h
      cases h
      show (Txt.split text " ").headD "" ≠ "end"
      rcases c with c | c
      · rw [c]; decide +kernel
      · rw [c.1]; decide +kernel
  · cases hf : firstM (WR ++ if b = true then LL else OL) (Txt.split text " ") with
    | none => rw [hf] at h; cases h
    | some p =>
      rw [hf] at h
      cases h
      obtain ⟨form, m, _⟩ := first_len hf
      have : ∀ q ∈ (WR ++ OL) ++ (WR ++ LL), q.1 ≠ "end" := by decide +kernel
      refine this (p.1, form) ?_
      · split at m
        · exact List.mem_append_right _ m
        · exact List.mem_append_left _ m
theorem oneM_end {t : Str} {n : Nat} {Ls Ls1 : List LineM} {op : List Nat} {ln : LineM} (h : oneM t n Ls op = some (Ls1, ln)) (e : ln.form = "end") : ∃ op' k, op = op' ++ [k] := by
  unfold oneM at h
  split at h
  · unfold turnM at h
    cases hk : op.getLast? with
    | none => rw [hk] at h; cases h
    | some k =>
      obtain ⟨op', e⟩ := List.getLast?_eq_some_iff.mp hk
      exact ⟨op', k, e⟩
  · cases hl : lineM t (decide (aroundM Ls op ≠ 0)) with
    | none => rw [hl] at h; cases h
    | some l =>
      rw [hl] at h
      cases h
      exact absurd e (lineM_form hl)
section
variable {P : Program} {w : World} {K : PySem.W.Frag} {mg : Str → Option Value} {base : Heap}
def nLs : List Str := ["texts", "lines", "opened", "number", "text", "loop", "line"]
def spLines (K : PySem.W.Frag) (C CL : Addr) : Sp := fun vs H Q E => ∃ (a : Addr) (texts : List Str), vs = [.ref a] ∧ SqL K H a (texts.map V.str) ∧ (∀ x ∈ texts, Asc x ∧ x.length ≤ 90000) ∧ texts.length ≤ 1000 ∧ (∀ n : Nat, linesM texts = .error n → Rz CL "line" (.int n) H E) ∧
  ∀ Ls, linesM texts = .ok Ls → ∀ (l : Addr) (ps : List Addr) (H' : Hp), H l = none → H' l = some (.lst (ps.map V.ref)) → Objs K C H' ps Ls → Same H H' → (∀ p ∈ ps, H p = none) → Q (.ref l) H'
theorem scLines : FnScope nLs ["texts"] (defScope s_read_lines) := ⟨rfl, rfl, rfl, by decide +kernel, rfl, by decide +kernel, by decide +kernel⟩
/-- what holds between two lines -/
structure InvL (K : PySem.W.Frag) (C : Addr) (H H' : Hp) (l o : Addr) (texts : List Str) (i : Nat) (ps : List Addr) (Ls : List LineM) (op : List Nat) : Prop where
  sm : Same H H'
  hl : H' l = some (.lst (ps.map V.ref))
  ho : H' o = some (.lst (op.map fun n : Nat => V.int n))
  ob : Objs K C H' ps Ls
  go : goM (texts.drop i) (i + 1) Ls op = goM texts 1 [] []
  hop : ∀ n ∈ op, 1 ≤ n ∧ n ≤ Ls.length
  ln : Ls.length = i
  fr : ∀ p ∈ ps, H p = none
  ol : op.length ≤ i
theorem ok_lines {C CL fL : Addr} (R : Raw K mg "read_lines" s_read_lines ["texts"]) (T : GB mg) (X : EXC P K mg CL fL) (TL : ClsT K mg C "Line" lineNames) (DA : Def P w K mg base CX0 "loop_around" 1 ["lines", "opened"] (spAround K C)) (DT : Def P w K mg base CX0 "read_turn" 3 ["word", "number", "lines", "opened"] (spTurn K C)) (DL : Def P w K mg base CX0 "read_line" 7 ["text", "in_loop"] (spLine K C)) :
    Def P w K mg base (L2.CX P w) "read_lines" 8 ["texts"] (spLines K C CL) := by
  obtain ⟨fA, dA, GA, gA, kA, bA⟩ := DA
  obtain ⟨fT, dT, GT, gT, kT, bT⟩ := DT
  obtain ⟨fL, dL, GL, gL, kL, bL⟩ := DL
  refine R.def fun f fd F => F.okX scLines (fun vs H Q E h => ?_) (fun cdv A outer s H vs Q E hr h => ?_)
  · obtain ⟨a, texts, rfl, _⟩ := h
    rfl
  · obtain ⟨a, texts, rfl, sq, ha, hlen, kE, kQ⟩ := h
    have hr1 : Room 1 _ := hr.mono (by decide)
    have hr3 : Room 3 _ := hr.mono (by decide)
    obtain ⟨tB, pB, qB⟩ : ∃ tB, PSs (cxOf (L2.CX P w) P w K mg base nLs "read_lines" (defScope s_read_lines) f cdv A outer s H E) ((forB (nthS (defBody s_read_lines) 2)).drop 3) tB ∧
        ∀ (D : Ends) (l o : Addr) (i : Nat) (t : Str) (ps : List Addr) (Ls Ls1 : List LineM) (op : List Nat) (p : Addr) (ln : LineM) (H1 : Hp), texts[i]? = some t → l ≠ o → H l = none → H o = none → Same H H1 → H1 l = some (.lst (ps.map V.ref)) → H1 o = some (.lst (op.map fun n : Nat => V.int n)) → Objs K C H1 ps Ls1 → Ls1.length = i →
          (∀ p ∈ ps, H p = none) → H p = none → p ∉ ps → LineAt K C H1 p ln → op.length ≤ i → (∀ n ∈ op, 1 ≤ n ∧ n ≤ Ls.length) → Ls.length = i → oneM t (i + 1) Ls op = some (Ls1, ln) → goM (texts.drop i) (i + 1) Ls op = goM texts 1 [] [] →
          (∀ σ' H2 ps' Ls' op', (∃ x3 x4 x5 x6, σ' = [some (.ref a), some (.ref l), some (.ref o), x3, x4, x5, x6]) → InvL K C H H2 l o texts (i + 1) ps' Ls' op' → D.nx σ' H2) →
          tB D [some (.ref a), some (.ref l), some (.ref o), some (.int ((i + 1 : Nat) : Int)), some (.str t), some (.int (aroundM Ls op)), some (.ref p)] H1 := by
      refine ⟨_, pss_cons (ps_fld (pv 6) (pv 5) rfl)
        (pss_cons (ps_expr (pe_bm PySem.F.plainAttrs_list PySem.F.slot_list_append PySem.F.type_list_append mt_append (pv 1) (pa_cons (pv 6) pa_nil)))
        (pss_one (ps_if (pt_cmpR op_eq (pe_fld (pv 6) rfl) pe_str (nomark _)) (pss_one (ps_expr (pe_bm0 PySem.F.plainAttrs_list PySem.F.slot_list_pop PySem.F.type_list_pop mt_pop (pv 2))))
          (pss_one (ps_if (pt_cmpR op_in_seq (pe_fld (pv 6) rfl) (pe_tup (pa_cons pe_str (pa_cons pe_str pa_nil))) (by rfl)) (pss_one (ps_expr (pe_bm PySem.F.plainAttrs_list PySem.F.slot_list_append PySem.F.type_list_append mt_append (pv 2) (pa_cons (pv 3) pa_nil)))) pss_nil))))), ?_⟩
      intro D l o i t ps Ls Ls1 op p ln H1 ht nlo hl0 ho0 sm hl ho ob h1l fr hp0 pps la ol hop hLs hone hgo next
      obtain ⟨dx, vw, vt, hln, dw, dt⟩ := la
      refine ⟨_, rfl, _, rfl, p, C, dx, _, rfl, hln, TL.cl, TL.no _ (by simp [lineNames]), ln_small, ?_⟩
      rw [lp_loop]
      have lp : l ≠ p := ne_of hl hln (fun z => nomatch z)
      have op_ : o ≠ p := ne_of ho hln (fun z => nomatch z)
      have e1 : ExtT H1 (upd H1 p (.ins C dx (lnF ln.form vw vt (aroundM Ls op) ln.opener ln.turn ln.ending ln.thn ln.oth))) := ExtT.ins hln
      generalize hH2 : upd H1 p (.ins C dx (lnF ln.form vw vt (aroundM Ls op) ln.opener ln.turn ln.ending ln.thn ln.oth)) = H2 at *
      have hp2 : H2 p = some (.ins C dx (lnF ln.form vw vt (aroundM Ls op) ln.opener ln.turn ln.ending ln.thn ln.oth)) := by rw [← hH2, upd_same]
      have hl2 : H2 l = some (.lst (ps.map V.ref)) := by rw [← hH2, upd_ne lp]; exact hl
      have ho2 : H2 o = some (.lst (op.map fun n : Nat => V.int n)) := by rw [← hH2, upd_ne op_]; exact ho
      have ob2 : Objs K C H2 ps Ls1 := ob.keep e1 fun q hq => by rw [← hH2, upd_ne (fun z : q = p => pps (z ▸ hq))]
      have sm2 : Same H H2 := by rw [← hH2]; exact sm.updl hp0
      have la2 : LineAt K C H2 p { ln with loop := aroundM Ls op } := ⟨dx, vw, vt, hp2, dw.keepT e1 (tOnly_strs _), dt.keepT e1 (tOnly_test _)⟩
      have pl : ps.length = i := by rw [ob.len, h1l]
      have hi : i < texts.length := (List.getElem?_eq_some_iff.mp ht).1
      refine ⟨_, rfl, .inl ⟨rfl, _, SqL.of hl2⟩, _, rfl, l, _, _, rfl, rfl, hl2, by rw [List.length_map, sizeLine_eq]; omega, ?_⟩
      have e3 : ExtT H2 (upd H2 l (.lst (ps.map V.ref ++ [V.ref p]))) := ExtT.lst hl2
      generalize hH3 : upd H2 l (.lst (ps.map V.ref ++ [V.ref p])) = H3 at *
      have hp3 : H3 p = some (.ins C dx (lnF ln.form vw vt (aroundM Ls op) ln.opener ln.turn ln.ending ln.thn ln.oth)) := by rw [← hH3, upd_ne (Ne.symm lp)]; exact hp2
      have hl3 : H3 l = some (.lst ((ps ++ [p]).map V.ref)) := by rw [← hH3, upd_same, List.map_append]; rfl
      have ho3 : H3 o = some (.lst (op.map fun n : Nat => V.int n)) := by rw [← hH3, upd_ne (Ne.symm nlo)]; exact ho2
      have ob3 : Objs K C H3 (ps ++ [p]) (Ls1 ++ [{ ln with loop := aroundM Ls op }]) := by
        refine Objs.snoc (ob2.keep e3 fun q hq => ?_) (la2.keep e3 ?_) pps
        · rw [← hH3, upd_ne (fun z : q = l => ob2.offL hl2 (z ▸ hq))]
        · rw [← hH3, upd_ne (Ne.symm lp)]
      have sm3 : Same H H3 := by rw [← hH3]; exact sm2.updl hl0
      have fr3 : ∀ q ∈ ps ++ [p], H q = none := fun q hq => by
        rcases List.mem_append.mp hq with hq | hq
        · exact fr q hq
        · rw [List.mem_singleton.mp hq]; exact hp0
      have go3 : goM (texts.drop (i + 1)) (i + 1 + 1) (Ls1 ++ [{ ln with loop := aroundM Ls op }]) (openedM ln.form (i + 1) op) = goM texts 1 [] [] := by
        rw [← hgo, goM_step ht]
        unfold stepM
        rw [hone]
      have len3 : (Ls1 ++ [{ ln with loop := aroundM Ls op }]).length = i + 1 := by rw [List.length_append, h1l]; rfl
      have fin : ∀ (H4 : Hp) (op' : List Nat), op' = openedM ln.form (i + 1) op → H4 l = some (.lst ((ps ++ [p]).map V.ref)) → H4 o = some (.lst (op'.map fun n : Nat => V.int n)) → Same H H4 → Objs K C H4 (ps ++ [p]) (Ls1 ++ [{ ln with loop := aroundM Ls op }]) → InvL K C H H4 l o texts (i + 1) (ps ++ [p]) (Ls1 ++ [{ ln with loop := aroundM Ls op }]) op' := fun H4 op' eo g1 g2 g3 g4 => by
        refine ⟨g3, g1, g2, g4, by rw [eo]; exact go3, fun n hn => ?_, len3, fr3, ?_⟩
        · rw [len3]
          rw [eo] at hn
          unfold openedM at hn
          split at hn
          · have := hop n (List.dropLast_subset _ hn); omega
          · split at hn
            · rcases List.mem_append.mp hn with hn | hn
              · have := hop n hn; omega
              · rw [List.mem_singleton.mp hn]; omega
            · have := hop n hn; omega
        · rw [eo]
          unfold openedM
          split
          · rw [List.length_dropLast]; omega
          · split
            · rw [List.length_append]; show op.length + 1 ≤ i + 1; omega
            · omega
      refine ⟨_, rfl, p, C, dx, _, _, rfl, hp3, TL.cl, TL.no _ (by simp [lineNames]), ln_form .., rfl, _, rfl, ?_⟩
      by_cases c1 : ln.form = "end"
      · obtain ⟨op0, k, eop⟩ := oneM_end hone c1
        refine ifT (decide_eq_true (congrArg V.str c1)) ⟨_, rfl, .inl ⟨rfl, _, SqL.of ho3⟩, o, _, .int k, rfl, rfl, ho3, by rw [eop, List.map_append]; simp, ?_⟩
        refine next _ _ _ _ op0 ⟨_, _, _, _, rfl⟩ (fin _ op0 (by unfold openedM; rw [if_pos c1, eop, List.dropLast_concat]) ?_ ?_ (sm3.updl ho0) (ob3.updL ho3))
        · rw [upd_ne nlo]; exact hl3
        · rw [upd_same, eop, List.map_append, List.map_singleton, List.dropLast_concat]
      · refine ifF (decide_eq_false fun z => c1 (V.str.inj z)) ⟨_, rfl, p, C, dx, _, _, rfl, hp3, TL.cl, TL.no _ (by simp [lineNames]), ln_form .., (by show 2 ≤ sizeLine; decide), fun q hq => ?_⟩
        have sq := same_upd (o := .tup [V.str "if", V.str "walk"]) hq
        refine ⟨q, _, rfl, .inr (SqT.of upd_same), rfl, by rfl, _, rfl, ?_⟩
        show if opensM ln.form = true then _ else _
        cases c2 : opensM ln.form with
        | true =>
          refine iteT ⟨_, rfl, .inl ⟨rfl, _, SqL.of (sq _ _ ho3)⟩, _, rfl, o, _, _, rfl, rfl, sq _ _ ho3, by rw [List.length_map, sizeLine_eq]; omega, ?_⟩
          refine next _ _ _ _ (op ++ [i + 1]) ⟨_, _, _, _, rfl⟩ (fin _ _ (by unfold openedM; rw [if_neg c1, if_pos c2]) ?_ ?_ ((sm3.trans sq).updl ho0) ((ob3.same sq).updL (sq _ _ ho3)))
          · rw [upd_ne nlo]; exact sq _ _ hl3
          · rw [upd_same, List.map_append]; rfl
        | false =>
          refine iteF (next _ _ _ _ op ⟨_, _, _, _, rfl⟩ (fin _ _ (by unfold openedM; rw [if_neg c1, if_neg (by rw [c2]; decide)]) (sq _ _ hl3) (sq _ _ ho3) (sm3.trans sq) (ob3.same sq)))
    refine ⟨_, pss_cons (ps_set (i := 1) scLines.nd rfl (Or.inl rfl) (pe_lst pa_nil)) (pss_cons (ps_set (i := 2) scLines.nd rfl (Or.inl rfl) (pe_lst pa_nil))
      (pss_cons (ps_for (passes_of rfl) rfl (pi_enumS (by decide) (by decide) (by rfl) T.enum (pa_cons (pv 0) pa_nil)) (pg_tup rfl (pgs_cons (pg_name (i := 3) scLines.nd rfl (Or.inl rfl)) (pgs_cons (pg_name (i := 4) scLines.nd rfl (Or.inl rfl)) pgs_nil)))
        (pss_cons (ps_set (i := 5) scLines.nd rfl (Or.inl rfl) (pe_call GA hr1 (by rfl) gA kA bA .nil pass0 (pa_cons (pv 1) (pa_cons (pv 2) pa_nil))))
        (pss_cons (ps_if (pt_cmpR op_in_seq (pv 4) (pe_tup (pa_cons pe_str (pa_cons pe_str pa_nil))) (by rfl))
          (pss_one (ps_set (i := 6) scLines.nd rfl (Or.inl rfl) (pe_call GT hr3 (by rfl) gT kT bT .nil pass0 (pa_cons (pv 4) (pa_cons (pv 3) (pa_cons (pv 1) (pa_cons (pv 2) pa_nil)))))))
          (pss_one (ps_set (i := 6) scLines.nd rfl (Or.inl rfl) (pe_call GL hr (by rfl) gL kL bL .nil pass0 (pa_cons (pv 4) (pa_cons (pe_cmpR op_ne (pv 5) pe_int (nomark _)) pa_nil))))))
        (pss_cons (ps_if (pt_cmpR op_isN (pv 6) pe_non (nomark _)) (pss_one (ps_raiseX rfl X.line hr1 (takes_of rfl rfl rfl rfl) (pa_cons (pv 3) pa_nil))) pss_nil) pB))))
      (pss_cons (ps_if (pt_cmpR op_gt (pe_callB call_len_seq (by rfl) T.len PySem.boot_len (pa_cons (pv 2) pa_nil)) pe_int (nomark _)) (pss_one (ps_raiseX rfl X.line hr1 (takes_of rfl rfl rfl rfl) (pa_cons (pe_op op_add (pe_callB call_len_seq (by rfl) T.len PySem.boot_len (pa_cons (pv 0) pa_nil)) pe_int) pa_nil))) pss_nil)
      (pss_one (ps_ret (pv 1)))))), ?_⟩
    refine ⟨(by show 0 ≤ sizeLine; decide), fun l hl => ⟨(by show 0 ≤ sizeLine; decide), fun o ho => ?_⟩⟩
    have s1 := same_upd (o := .lst []) hl
    have s2 := same_upd (o := .lst []) ho
    have nlo : l ≠ o := fun z => by rw [← z, upd_same] at ho; cases ho
    have ho0 : H o = none := by
      cases e : H o with
      | none => rfl
      | some u => rw [s1 _ _ e] at ho; cases ho
    have inv0 : InvL K C H (upd (upd H l (.lst [])) o (.lst [])) l o texts 0 [] [] [] := ⟨s1.trans s2, by rw [upd_ne nlo, upd_same]; rfl, by rw [upd_same]; rfl, ⟨rfl, (fun i p l' h => by simp at h), .nil⟩, rfl, (fun n h => by cases h), rfl, (fun p h => by cases h), Nat.le_refl _⟩
    refine ⟨_, rfl, a, _, rfl, (s1.trans s2).seq sq, for_enumS (K := K) (a := a) (k := 1) (xs := texts.map V.str) (fun i σ H' => (∃ x3 x4 x5 x6, σ = [some (.ref a), some (.ref l), some (.ref o), x3, x4, x5, x6]) ∧ ∃ ps Ls op, InvL K C H H' l o texts i ps Ls op) ⟨⟨_, _, _, _, rfl⟩, _, _, _, inv0⟩ (fun i σ H' _ h => let ⟨_, _, _, _, I⟩ := h; I.sm.seq sq) ?_ ?_⟩
    · rintro i x Tt σ H1 hx ⟨⟨x3, x4, x5, x6, rfl⟩, ps, Ls, op, I⟩ hT
      rw [List.getElem?_map] at hx
      obtain ⟨t, ht, rfl⟩ := Option.map_eq_some_iff.mp hx
      obtain ⟨at1, at2⟩ := ha t (List.mem_of_getElem? ht)
      have sT := same_upd (o := .tup [V.int (1 + (i : Nat)), V.str t]) hT
      have eN : (1 : Int) + (i : Nat) = ((i + 1 : Nat) : Int) := by omega
      refine ⟨Tt, _, rfl, SqT.of upd_same, rfl, _, _, rfl, _, _, rfl, rfl, ?_⟩
      rw [eN] at sT ⊢
      generalize hH2 : upd H1 Tt (.tup [V.int ((i + 1 : Nat) : Int), V.str t]) = H2 at *
      have sm2 := I.sm.trans sT
      have hl2 := sT _ _ I.hl
      have ho2 := sT _ _ I.ho
      have ob2 := I.ob.same sT
      refine ⟨_, rfl, _, rfl, l, o, ps, Ls, op, rfl, SqL.of hl2, ob2, SqL.of ho2, I.hop, ?_⟩
      have next : ∀ σ' H2 ps' Ls' op', (∃ x3 x4 x5 x6, σ' = [some (.ref a), some (.ref l), some (.ref o), x3, x4, x5, x6]) → InvL K C H H2 l o texts (i + 1) ps' Ls' op' → (∃ x3 x4 x5 x6, σ' = [some (V.ref a), some (.ref l), some (.ref o), x3, x4, x5, x6]) ∧ ∃ ps Ls op, InvL K C H H2 l o texts (i + 1) ps Ls op := fun σ' H2 ps' Ls' op' e I' => ⟨e, ps', Ls', op', I'⟩
      have bad : oneM t (i + 1) Ls op = none → linesM texts = .error (i + 1) := fun e => by
        unfold linesM
        rw [← I.go, goM_step ht]
        unfold stepM
        rw [e]
      have old : ∀ {b : Addr} {H3 : Hp}, Same H H3 → H3 b = none → H b = none := fun {b H3} s e => by
        cases e2 : H b with
        | none => rfl
        | some u => rw [s _ _ e2] at e; cases e
      refine ⟨_, rfl, (by show 2 ≤ sizeLine; decide), fun q hq => ?_⟩
      have sq1 := same_upd (o := .tup [V.str "else", V.str "end"]) hq
      refine ⟨q, _, rfl, .inr (SqT.of upd_same), rfl, by rfl, _, rfl, ?_⟩
      generalize hH3 : upd H2 q (.tup [V.str "else", V.str "end"]) = H3 at *
      have sm3 := sm2.trans sq1
      have hl3 := sq1 _ _ hl2
      have ho3 := sq1 _ _ ho2
      have ob3 := ob2.same sq1
      show if isTurn t = true then _ else _
      cases ct : isTurn t with
      | true =>
        have eo : oneM t (i + 1) Ls op = turnM t (i + 1) Ls op := by unfold oneM; rw [if_pos ct]
        refine iteT ⟨_, rfl, _, rfl, _, rfl, _, rfl, t, i + 1, l, o, ps, Ls, op, rfl, SqL.of hl3, ob3, SqL.of ho3, I.hop, fun e => ?_, fun Ls' ln e p H4 hp off ob4 la => ?_⟩
        · refine ⟨_, rfl, rfl, _, rfl, ifT (by rfl) ⟨_, rfl, rfl, fun h => (nomatch h), fun _ dd hd => kE _ (bad (eo.trans e)) H3 dd sm3 hd⟩⟩
        · have sm4 := Same.offL sm3 off I.fr
          refine ⟨_, rfl, rfl, _, rfl, ifF (by rfl) ?_⟩
          have hl4 := off _ _ (ob3.offL hl3) hl3
          have ho4 := off _ _ (ob3.offL ho3) ho3
          exact qB _ l o i t ps Ls Ls' op p ln H4 ht nlo hl ho0 sm4 hl4 ho4 ob4 ((turnM_len e).trans I.ln) I.fr (old sm3 hp) (ob3.off hp) la I.ol I.hop I.ln (eo.trans e) I.go next
      | false =>
        have eo : oneM t (i + 1) Ls op = (lineM t (decide (aroundM Ls op ≠ 0))).map fun l => (Ls, l) := by unfold oneM; rw [if_neg (by rw [ct]; decide)]
        have eb : (!decide (V.int (aroundM Ls op) = V.int 0)) = decide (aroundM Ls op ≠ 0) := by
          rw [← decide_not]
          exact decide_eq_decide.mpr ⟨fun z e => z (by rw [e]; rfl), fun z e => z (by have := V.int.inj e; omega)⟩
        refine iteF ⟨_, rfl, _, rfl, rfl, t, decide (aroundM Ls op ≠ 0), congrArg (fun z => [V.str t, V.bl z]) eb, at1, at2, fun e H4 s4 => ?_, fun ln e p H4 hp s4 la => ?_⟩
        · refine ⟨_, rfl, rfl, _, rfl, ifT (by rfl) ⟨_, rfl, rfl, fun h => (nomatch h), fun _ dd hd => kE _ (bad (eo.trans (by rw [e]; rfl))) H4 dd (sm3.trans s4) hd⟩⟩
        · refine ⟨_, rfl, rfl, _, rfl, ifF (by rfl) ?_⟩
          exact qB _ l o i t ps Ls Ls op p ln H4 ht nlo hl ho0 (sm3.trans s4) (s4 _ _ hl3) (s4 _ _ ho3) (ob3.same s4) I.ln I.fr (old sm3 hp) (ob3.off hp) la I.ol I.hop I.ln (eo.trans (by rw [e]; rfl)) I.go next
    · rintro σ H1 ⟨⟨x3, x4, x5, x6, rfl⟩, ps, Ls, op, I⟩
      have hgo := I.go
      rw [List.length_map, List.drop_length] at hgo
      have eL : linesM texts = if op.length > 0 then .error (texts.length + 1) else .ok Ls := by
        unfold linesM
        rw [← hgo]; rfl
      refine ⟨_, rfl, o, _, rfl, .inl (SqL.of I.ho), _, _, rfl, rfl, _, rfl, ?_⟩
      rw [List.length_map]
      by_cases c : op.length > 0
      · rw [if_pos c] at eL
        refine ifT (decide_eq_true (by show (0 : Int) < (op.length : Nat); omega)) ⟨_, rfl, a, _, rfl, .inl (I.sm.seq sq), _, _, rfl, rfl, rfl, fun h => (nomatch h), fun _ dd hd => ?_⟩
        rw [List.length_map]
        exact kE _ eL H1 dd I.sm hd
      · rw [if_neg c] at eL
        exact ifF (decide_eq_false (by show ¬ (0 : Int) < (op.length : Nat); omega)) ⟨_, rfl, kQ Ls eL l ps H1 hl I.hl I.ob I.sm I.fr⟩
end
end K40

namespace K40
open PySem PySem.Spec PyProof.Rows L2 Fm PySem.RingX
section
variable {P : Program} {w : World} {K : PySem.W.Frag} {mg : Str → Option Value} {base : Heap}
def spLand (K : PySem.W.Frag) (C : Addr) : Sp := fun vs H Q _ => ∃ (l : Addr) (n : Nat) (ps : List Addr) (Ls : List LineM) (k r : Nat), vs = [.ref l, .int n] ∧ SqL K H l (ps.map V.ref) ∧ Objs K C H ps Ls ∧ landM k Ls n = some r ∧ ∀ H', Same H H' → Q (.int r) H'
theorem scLand : FnScope ["lines", "number", "opener"] ["lines", "number"] (defScope s_landing) := ⟨rfl, rfl, rfl, by decide +kernel, rfl, by decide +kernel, by decide +kernel⟩
theorem ok_land {C : Addr} (R : Raw K mg "landing" s_landing ["lines", "number"]) (T : GB mg) (TL : ClsT K mg C "Line" lineNames) : Def P w K mg base CX0 "landing" 1 ["lines", "number"] (spLand K C) := by
  refine R.def fun f fd F => F.ok scLand (fun vs H Q E h => ?_) (fun cdv A outer s H vs Q E hr h => ?_)
  · obtain ⟨l, n, ps, Ls, k, r, rfl, _⟩ := h
    rfl
  · obtain ⟨l, n, ps, Ls, k, r, rfl, sl, ob, hr0, kk⟩ := h
    refine ⟨_, pss_cons (ps_while PassesOwn.never (PW.pt (pw_and (pt_cmpR op_le (pv 1) (pe_callB call_len_seq (by rfl) T.len PySem.boot_len (pa_cons (pv 0) pa_nil)) (nomark _)) (pw_and1 (pt_cmpR op_in_seq (pe_fld (pe_ix ix_list (pv 0) (pe_op op_sub (pv 1) pe_int) (fun _ _ => rfl)) rfl) (pe_tup (pa_cons pe_str (pa_cons pe_str pa_nil))) (by rfl)))))
        (pss_cons (ps_set (i := 2) scLand.nd rfl (Or.inl rfl) (pe_ix ix_list (pv 0) (pe_op op_sub (pe_fld (pe_ix ix_list (pv 0) (pe_op op_sub (pv 1) pe_int) (fun _ _ => rfl)) rfl) pe_int) (fun _ _ => rfl)))
        (pss_cons (ps_if (pt_cmpR op_eq (pe_fld (pv 2) rfl) pe_str (nomark _)) (pss_one (ps_ret (pe_fld (pe_ix ix_list (pv 0) (pe_op op_sub (pv 1) pe_int) (fun _ _ => rfl)) rfl))) pss_nil)
        (pss_one (ps_set (i := 1) scLand.nd rfl (Or.inl rfl) (pe_op op_add (pe_fld (pv 2) rfl) pe_int))))))
      (pss_one (ps_ret (pv 1))), ?_⟩
    refine ⟨fun m σ H' => ∃ (n : Nat) (x2 : Option V), σ = [some (.ref l), some (.int n), x2] ∧ Same H H' ∧ landM m Ls n = some r, ⟨k, n, _, rfl, Same.refl _, hr0⟩, ?_⟩
    rintro m σ H1 ⟨n, x2, rfl, s1, hm⟩
    have pl : ps.length = Ls.length := ob.len
    have ob1 := ob.same s1
    have sl1 := s1.seq sl
    cases m with
    | zero => exact absurd hm (by simp [landM])
    | succ m =>
      unfold landM at hm
      by_cases c0 : n = 0
      · rw [if_pos c0] at hm; cases hm
      rw [if_neg c0] at hm
      refine ⟨_, rfl, _, rfl, l, _, rfl, .inl sl1, _, _, rfl, rfl, _, rfl, ?_⟩
      rw [List.length_map, pl]
      by_cases c1 : n ≤ Ls.length
      · refine ifT (decide_eq_true (by show (n : Int) ≤ (Ls.length : Nat); omega)) ?_
        obtain ⟨p, hp, pm, dx, vw, vt, hl, dw, dt⟩ := ob1.at_ (by omega : 1 ≤ n) c1
        have at1 : atI (ps.map V.ref) ((n : Int) - 1) = some (.ref p) := by
          rw [show (n : Int) - 1 = ((n - 1 : Nat) : Int) by omega]
          exact atI_nat (by rw [List.getElem?_map, hp]; rfl)
        refine ⟨_, rfl, _, rfl, _, _, rfl, rfl, l, _, _, .ref p, rfl, rfl, sl1, at1, p, C, dx, _, _, rfl, hl, TL.cl, TL.no _ (by simp [lineNames]), ln_form .., (by show 2 ≤ sizeLine; decide), fun q hq => ?_⟩
        have sq := same_upd (o := .tup [V.str "else", V.str "end"]) hq
        refine ⟨q, _, rfl, .inr (SqT.of upd_same), rfl, by rfl, _, rfl, ?_⟩
        generalize upd H1 q (.tup [V.str "else", V.str "end"]) = H2 at *
        show if isTurn (lineAt Ls n).form = true then _ else _
        cases c2 : isTurn (lineAt Ls n).form with
        | false =>
          rw [if_neg (fun z => by rw [c2] at z; cases z.2)] at hm
          cases hm
          exact iteF ⟨_, rfl, kk _ (s1.trans sq)⟩
        | true =>
          rw [if_pos ⟨c1, c2⟩] at hm
          split at hm
          · rename_i c3
            have ob2 := ob1.same sq
            have sl2 := sq.seq sl1
            have hl2 := sq _ _ hl
            obtain ⟨p', hp', _, dx', vw', vt', hl', _⟩ := ob2.at_ c3.1 c3.2
            have at2 : atI (ps.map V.ref) (((lineAt Ls n).opener : Int) - 1) = some (.ref p') := by
              rw [show ((lineAt Ls n).opener : Int) - 1 = (((lineAt Ls n).opener - 1 : Nat) : Int) by omega]
              exact atI_nat (by rw [List.getElem?_map, hp']; rfl)
            refine iteT ⟨fun σ' H'' => ∃ (n' : Nat) (x2 : Option V), σ' = [some (.ref l), some (.int n'), x2] ∧ Same H H'' ∧ landM m Ls n' = some r, fun σ' H' ⟨n', x2, z1, z2, z3⟩ => ⟨m, Nat.lt_succ_self m, n', x2, z1, z2, z3⟩, ?_⟩
            refine ⟨_, rfl, _, rfl, _, rfl, _, _, rfl, rfl, l, _, _, .ref p, rfl, rfl, sl2, at1, p, C, dx, _, _, rfl, hl2, TL.cl, TL.no _ (by simp [lineNames]), ln_opener .., _, _, rfl, rfl, l, _, _, .ref p', rfl, rfl, sl2, at2, ?_⟩
            refine ⟨_, rfl, p', C, dx', _, _, rfl, hl', TL.cl, TL.no _ (by simp [lineNames]), ln_form .., rfl, _, rfl, ?_⟩
            split at hm
            · rename_i c4
              cases hm
              exact ifT (decide_eq_true (congrArg V.str c4)) ⟨_, rfl, _, rfl, _, _, rfl, rfl, l, _, _, .ref p, rfl, rfl, sl2, at1, p, C, dx, _, _, rfl, hl2, TL.cl, TL.no _ (by simp [lineNames]), ln_opener .., kk _ (s1.trans sq)⟩
            · rename_i c4
              exact ifF (decide_eq_false fun z => c4 (V.str.inj z)) ⟨_, rfl, p', C, dx', _, _, rfl, hl', TL.cl, TL.no _ (by simp [lineNames]), ln_ending .., _, _, rfl, rfl, _, _, rfl, s1.trans sq, hm⟩
          · cases hm
      · rw [if_neg (fun z => c1 z.1)] at hm
        have e0 : decide ((n : Int) ≤ (Ls.length : Nat)) = false := decide_eq_false (by omega)
        cases hm
        exact ifF e0 (iteF ⟨_, rfl, kk _ s1⟩)
theorem land_same {Ls Ls' : List LineM} (hl : Ls'.length = Ls.length) (h : ∀ n, (lineAt Ls' n).form = (lineAt Ls n).form ∧ (lineAt Ls' n).opener = (lineAt Ls n).opener ∧ (lineAt Ls' n).ending = (lineAt Ls n).ending) : ∀ k n, landM k Ls' n = landM k Ls n
  | 0, _ => rfl
  | k + 1, n => by
    unfold landM
    rw [hl, (h n).1, (h n).2.1, (h _).1, (h _).2.2, land_same hl h k]
theorem set_line {Ls : List LineM} {n : Nat} {l : LineM} (h1 : 1 ≤ n) (h2 : n ≤ Ls.length) (m : Nat) : lineAt (Ls.set (n - 1) l) m = if m - 1 = n - 1 then l else lineAt Ls m := by
  unfold lineAt
  rw [List.getD_eq_getElem?_getD, List.getD_eq_getElem?_getD]
  split
  · rename_i e
    rw [e, List.getElem?_set_self (by omega)]; rfl
  · rename_i e
    rw [List.getElem?_set_ne (fun z => e z.symm)]
theorem land_set {Ls : List LineM} {n : Nat} {t : Nat} (h1 : 1 ≤ n) (h2 : n ≤ Ls.length) (k m : Nat) : landM k (Ls.set (n - 1) { lineAt Ls n with thn := t }) m = landM k Ls m := by
  refine land_same (by rw [List.length_set]) (fun j => ?_) k m
  rw [set_line h1 h2]
  split
  · rename_i e
    have : lineAt Ls j = lineAt Ls n := by unfold lineAt; rw [e]
    rw [this]
    exact ⟨rfl, rfl, rfl⟩
  · exact ⟨rfl, rfl, rfl⟩
def spLink (K : PySem.W.Frag) (C : Addr) : Sp := fun vs H Q _ => ∃ (l : Addr) (n : Nat) (ps : List Addr) (Ls : List LineM) (k : Nat) (Ls' : List LineM), vs = [.ref l, .int n] ∧ SqL K H l (ps.map V.ref) ∧ Objs K C H ps Ls ∧ 1 ≤ n ∧ n ≤ Ls.length ∧ linkM k Ls n = some Ls' ∧ ∀ H', OffL ps H H' → Objs K C H' ps Ls' → Q .non H'
theorem scLink : FnScope ["lines", "number", "line"] ["lines", "number"] (defScope s_link) := ⟨rfl, rfl, rfl, by decide +kernel, rfl, by decide +kernel, by decide +kernel⟩
theorem ok_link {C : Addr} (R : Raw K mg "link" s_link ["lines", "number"]) (T : GB mg) (TL : ClsT K mg C "Line" lineNames) (DL : Def P w K mg base CX0 "landing" 1 ["lines", "number"] (spLand K C)) : Def P w K mg base CX0 "link" 2 ["lines", "number"] (spLink K C) := by
  obtain ⟨fL, dL, GL, gL, kL, bL⟩ := DL
  refine R.def fun f fd F => F.ok scLink (fun vs H Q E h => ?_) (fun cdv A outer s H vs Q E hr h => ?_)
  · obtain ⟨l, n, ps, Ls, k, Ls', rfl, _⟩ := h
    rfl
  · obtain ⟨l, n, ps, Ls, k, Ls', rfl, sl, ob, h1, h2, hm, kk⟩ := h
    refine ⟨_, pss_cons (ps_set (i := 2) scLink.nd rfl (Or.inl rfl) (pe_ix ix_list (pv 0) (pe_op op_sub (pv 1) pe_int) (fun _ _ => rfl)))
      (pss_cons (ps_fld (pv 2) (pe_call GL hr (by rfl) gL kL bL .nil pass0 (pa_cons (pv 0) (pa_cons (pe_op op_add (pv 1) pe_int) pa_nil))) rfl)
      (pss_one (ps_if (pt_cmpR op_eq (pe_fld (pv 2) rfl) pe_str (nomark _)) (pss_one (ps_fld (pv 2) (pe_op op_add (pe_callB call_len_seq (by rfl) T.len PySem.boot_len (pa_cons (pv 0) pa_nil)) pe_int) rfl))
        (pss_one (ps_if (pt_cmpR op_eq (pe_fld (pv 2) rfl) pe_str (nomark _)) (pss_one (ps_fld (pv 2) (pe_call GL hr (by rfl) gL kL bL .nil pass0 (pa_cons (pv 0) (pa_cons (pe_op op_add (pe_fld (pe_ix ix_list (pv 0) (pe_op op_sub (pe_fld (pv 2) rfl) pe_int) (fun _ _ => rfl)) rfl) pe_int) pa_nil))) rfl))
          (pss_one (ps_if (pt_cmpR op_eq (pe_fld (pv 2) rfl) pe_str (nomark _)) (pss_one (ps_fld (pv 2) (pe_call GL hr (by rfl) gL kL bL .nil pass0 (pa_cons (pv 0) (pa_cons (pe_op op_add (pe_fld (pv 2) rfl) pe_int) pa_nil))) rfl))
            (pss_one (ps_if (pt_cmpR op_eq (pe_fld (pv 2) rfl) pe_str (nomark _)) (pss_one (ps_fld (pv 2) (pe_call GL hr (by rfl) gL kL bL .nil pass0 (pa_cons (pv 0) (pa_cons (pe_ifExp (pt_cmpR op_eq (pe_fld (pv 2) rfl) pe_int (nomark _)) (pe_fld (pv 2) rfl) (pe_op op_add (pe_fld (pv 2) rfl) pe_int)) pa_nil))) rfl)) pss_nil))))))))), ?_⟩
    obtain ⟨p, hp, pm, dx, vw, vt, hl, dw, dt⟩ := ob.at_ h1 h2
    have at1 : atI (ps.map V.ref) ((n : Int) - 1) = some (.ref p) := by
      rw [show (n : Int) - 1 = ((n - 1 : Nat) : Int) by omega]
      exact atI_nat (by rw [List.getElem?_map, hp]; rfl)
    unfold linkM at hm
    dsimp only at hm
    cases ht : landM k Ls (n + 1) with
    | none => rw [ht] at hm; cases hm
    | some t =>
      rw [ht] at hm
      dsimp only at hm
      refine ⟨_, rfl, _, rfl, _, _, rfl, rfl, l, _, _, .ref p, rfl, rfl, sl, at1, ?_⟩
      refine ⟨_, rfl, _, rfl, _, _, rfl, rfl, l, n + 1, ps, Ls, k, t, rfl, sl, ob, ht, fun H1 s1 => ⟨_, rfl, p, C, dx, _, rfl, s1 _ _ hl, TL.cl, TL.no _ (by simp [lineNames]), ln_small, ?_⟩⟩
      rw [lp_then]
      have ob1 := ob.same s1
      have ob2 : Objs K C (upd H1 p (.ins C dx (lnF (lineAt Ls n).form vw vt (lineAt Ls n).loop (lineAt Ls n).opener (lineAt Ls n).turn (lineAt Ls n).ending t (lineAt Ls n).oth))) ps (Ls.set (n - 1) { lineAt Ls n with thn := t }) := ob1.set (l := { lineAt Ls n with thn := t }) h1 h2 hp (dw.keep s1) (dt.keep s1)
      have off2 : OffL ps H (upd H1 p (.ins C dx (lnF (lineAt Ls n).form vw vt (lineAt Ls n).loop (lineAt Ls n).opener (lineAt Ls n).turn (lineAt Ls n).ending t (lineAt Ls n).oth))) := (OffL.of s1).upd pm
      have sl2 : SqL K (upd H1 p (.ins C dx (lnF (lineAt Ls n).form vw vt (lineAt Ls n).loop (lineAt Ls n).opener (lineAt Ls n).turn (lineAt Ls n).ending t (lineAt Ls n).oth))) l (ps.map V.ref) := off2.seqL ob sl
      have hp2 : (upd H1 p (.ins C dx (lnF (lineAt Ls n).form vw vt (lineAt Ls n).loop (lineAt Ls n).opener (lineAt Ls n).turn (lineAt Ls n).ending t (lineAt Ls n).oth))) p = some (.ins C dx (lnF (lineAt Ls n).form vw vt (lineAt Ls n).loop (lineAt Ls n).opener (lineAt Ls n).turn (lineAt Ls n).ending t (lineAt Ls n).oth)) := upd_same
      have dw2 : Dp K (upd H1 p (.ins C dx (lnF (lineAt Ls n).form vw vt (lineAt Ls n).loop (lineAt Ls n).opener (lineAt Ls n).turn (lineAt Ls n).ending t (lineAt Ls n).oth))) vw (strsD (lineAt Ls n).words) := (dw.keep s1).keepT (ExtT.ins (s1 _ _ hl)) (tOnly_strs _)
      have dt2 : Dp K (upd H1 p (.ins C dx (lnF (lineAt Ls n).form vw vt (lineAt Ls n).loop (lineAt Ls n).opener (lineAt Ls n).turn (lineAt Ls n).ending t (lineAt Ls n).oth))) vt (testD (lineAt Ls n).test) := (dt.keep s1).keepT (ExtT.ins (s1 _ _ hl)) (tOnly_test _)
      generalize upd H1 p (.ins C dx (lnF (lineAt Ls n).form vw vt (lineAt Ls n).loop (lineAt Ls n).opener (lineAt Ls n).turn (lineAt Ls n).ending t (lineAt Ls n).oth)) = H2 at *
      have pl : ps.length = Ls.length := ob.len
      have len2 : (Ls.set (n - 1) { lineAt Ls n with thn := t }).length = Ls.length := by rw [List.length_set]
      -- the line's last change
      have last : ∀ (H3 : Hp) (th ot : Nat) (Lz : List LineM), Same H2 H3 → Lz = Ls.set (n - 1) { lineAt Ls n with thn := th, oth := ot } → Ls' = Lz → Q .non (upd H3 p (.ins C dx (lnF (lineAt Ls n).form vw vt (lineAt Ls n).loop (lineAt Ls n).opener (lineAt Ls n).turn (lineAt Ls n).ending th ot))) := fun H3 th ot Lz s3 e1 e2 => by
        refine kk _ ((off2.trans (OffL.of s3)).upd pm) ?_
        have z := (ob2.same s3).set (n := n) (p := p) (dx := dx) (vw := vw) (vt := vt) (l := { lineAt Ls n with thn := th, oth := ot }) h1 (by rw [len2]; exact h2) hp (dw2.keep s3) (dt2.keep s3)
        rw [List.set_set] at z
        rw [e2, e1]
        exact z
      have put_oth : ∀ (t1 o1 z1 : Int), putF "other" (.int z1) (lnF (lineAt Ls n).form vw vt (lineAt Ls n).loop (lineAt Ls n).opener (lineAt Ls n).turn (lineAt Ls n).ending t1 o1) = lnF (lineAt Ls n).form vw vt (lineAt Ls n).loop (lineAt Ls n).opener (lineAt Ls n).turn (lineAt Ls n).ending t1 z1 := fun t1 o1 z1 => lp_other ..
      have put_thn : ∀ (t1 o1 z1 : Int), putF "then" (.int z1) (lnF (lineAt Ls n).form vw vt (lineAt Ls n).loop (lineAt Ls n).opener (lineAt Ls n).turn (lineAt Ls n).ending t1 o1) = lnF (lineAt Ls n).form vw vt (lineAt Ls n).loop (lineAt Ls n).opener (lineAt Ls n).turn (lineAt Ls n).ending z1 o1 := fun t1 o1 z1 => lp_then ..
      refine ⟨_, rfl, p, C, dx, _, _, rfl, hp2, TL.cl, TL.no _ (by simp [lineNames]), ln_form .., rfl, _, rfl, ?_⟩
      by_cases c1 : (lineAt Ls n).form = "quit"
      · rw [if_pos c1] at hm
        refine ifT (decide_eq_true (congrArg V.str c1)) ⟨_, rfl, l, _, rfl, .inl sl2, _, _, rfl, rfl, _, rfl, p, C, dx, _, rfl, hp2, TL.cl, TL.no _ (by simp [lineNames]), ln_small, ?_⟩
        rw [List.length_map, pl]
        show Q V.non (upd H2 p (.ins C dx (putF "then" (.int (((Ls.length : Nat) : Int) + 1)) (lnF (lineAt Ls n).form vw vt (lineAt Ls n).loop (lineAt Ls n).opener (lineAt Ls n).turn (lineAt Ls n).ending t (lineAt Ls n).oth))))
        rw [show ((Ls.length : Nat) : Int) + 1 = ((Ls.length + 1 : Nat) : Int) by omega, put_thn]
        exact last H2 (Ls.length + 1) (lineAt Ls n).oth _ (Same.refl _) rfl (Option.some.inj hm).symm
      rw [if_neg c1] at hm
      refine ifF (decide_eq_false fun z => c1 (V.str.inj z)) ⟨_, rfl, p, C, dx, _, _, rfl, hp2, TL.cl, TL.no _ (by simp [lineNames]), ln_form .., rfl, _, rfl, ?_⟩
      by_cases c2 : (lineAt Ls n).form = "stop"
      · rw [if_pos c2] at hm
        split at hm
        · rename_i c3
          cases hu : landM k Ls ((lineAt Ls (lineAt Ls n).loop).ending + 1) with
          | none => rw [hu] at hm; cases hm
          | some u =>
            rw [hu] at hm
            obtain ⟨p', hp', _, dx', vw', vt', hl', _⟩ := ob2.at_ c3.1 (by rw [len2]; exact c3.2)
            have at2 : atI (ps.map V.ref) (((lineAt Ls n).loop : Int) - 1) = some (.ref p') := by
              rw [show ((lineAt Ls n).loop : Int) - 1 = (((lineAt Ls n).loop - 1 : Nat) : Int) by omega]
              exact atI_nat (by rw [List.getElem?_map, hp']; rfl)
            have eend : (lineAt (Ls.set (n - 1) { lineAt Ls n with thn := t }) (lineAt Ls n).loop).ending = (lineAt Ls (lineAt Ls n).loop).ending := by
              rw [set_line h1 h2]
              split
              · rename_i e
                have : lineAt Ls (lineAt Ls n).loop = lineAt Ls n := by unfold lineAt at e ⊢; rw [e]
                rw [this]
              · rfl
            refine ifT (decide_eq_true (congrArg V.str c2)) ⟨_, rfl, _, rfl, _, rfl, p, C, dx, _, _, rfl, hp2, TL.cl, TL.no _ (by simp [lineNames]), ln_loop .., _, _, rfl, rfl, l, _, _, .ref p', rfl, rfl, sl2, at2, p', C, dx', _, _, rfl, hl', TL.cl, TL.no _ (by simp [lineNames]), ln_ending .., _, _, rfl, rfl, ?_⟩
            refine ⟨l, (lineAt (Ls.set (n - 1) { lineAt Ls n with thn := t }) (lineAt Ls n).loop).ending + 1, ps, _, k, u, rfl, sl2, ob2, by rw [land_set h1 h2, eend]; exact hu, fun H3 s3 => ⟨_, rfl, p, C, dx, _, rfl, s3 _ _ hp2, TL.cl, TL.no _ (by simp [lineNames]), ln_small, ?_⟩⟩
            rw [put_thn]
            exact last H3 u (lineAt Ls n).oth _ s3 rfl (Option.some.inj hm).symm
        · cases hm
      rw [if_neg c2] at hm
      refine ifF (decide_eq_false fun z => c2 (V.str.inj z)) ⟨_, rfl, p, C, dx, _, _, rfl, hp2, TL.cl, TL.no _ (by simp [lineNames]), ln_form .., rfl, _, rfl, ?_⟩
      by_cases c4 : (lineAt Ls n).form = "walk"
      · rw [if_pos c4] at hm
        cases hu : landM k Ls ((lineAt Ls n).ending + 1) with
        | none => rw [hu] at hm; cases hm
        | some u =>
          rw [hu] at hm
          refine ifT (decide_eq_true (congrArg V.str c4)) ⟨_, rfl, _, rfl, p, C, dx, _, _, rfl, hp2, TL.cl, TL.no _ (by simp [lineNames]), ln_ending .., _, _, rfl, rfl, ?_⟩
          refine ⟨l, (lineAt Ls n).ending + 1, ps, _, k, u, rfl, sl2, ob2, by rw [land_set h1 h2]; exact hu, fun H3 s3 => ⟨_, rfl, p, C, dx, _, rfl, s3 _ _ hp2, TL.cl, TL.no _ (by simp [lineNames]), ln_small, ?_⟩⟩
          rw [put_oth]
          exact last H3 t u _ s3 rfl (Option.some.inj hm).symm
      rw [if_neg c4] at hm
      refine ifF (decide_eq_false fun z => c4 (V.str.inj z)) ⟨_, rfl, p, C, dx, _, _, rfl, hp2, TL.cl, TL.no _ (by simp [lineNames]), ln_form .., rfl, _, rfl, ?_⟩
      by_cases c5 : (lineAt Ls n).form = "if"
      · rw [if_pos c5] at hm
        cases hu : landM k Ls (if (lineAt Ls n).turn = 0 then (lineAt Ls n).ending else (lineAt Ls n).turn + 1) with
        | none => rw [hu] at hm; cases hm
        | some u =>
          rw [hu] at hm
          have fin : ∀ H3, Same H2 H3 → Q .non (upd H3 p (.ins C dx (putF "other" (.int u) (lnF (lineAt Ls n).form vw vt (lineAt Ls n).loop (lineAt Ls n).opener (lineAt Ls n).turn (lineAt Ls n).ending t (lineAt Ls n).oth)))) := fun H3 s3 => by
            rw [put_oth]
            exact last H3 t u _ s3 rfl (Option.some.inj hm).symm
          refine ifT (decide_eq_true (congrArg V.str c5)) ⟨_, rfl, _, rfl, p, C, dx, _, _, rfl, hp2, TL.cl, TL.no _ (by simp [lineNames]), ln_turn .., rfl, _, rfl, ?_⟩
          by_cases c6 : (lineAt Ls n).turn = 0
          · refine ifT (decide_eq_true (by rw [c6]; rfl)) ⟨_, rfl, p, C, dx, _, _, rfl, hp2, TL.cl, TL.no _ (by simp [lineNames]), ln_ending .., ?_⟩
            exact ⟨l, (lineAt Ls n).ending, ps, _, k, u, rfl, sl2, ob2, by rw [land_set h1 h2]; rw [if_pos c6] at hu; exact hu, fun H3 s3 => ⟨_, rfl, p, C, dx, _, rfl, s3 _ _ hp2, TL.cl, TL.no _ (by simp [lineNames]), ln_small, fin H3 s3⟩⟩
          · refine ifF (decide_eq_false fun z => c6 (by have := V.int.inj z; omega)) ⟨_, rfl, p, C, dx, _, _, rfl, hp2, TL.cl, TL.no _ (by simp [lineNames]), ln_turn .., _, _, rfl, rfl, ?_⟩
            exact ⟨l, (lineAt Ls n).turn + 1, ps, _, k, u, rfl, sl2, ob2, by rw [land_set h1 h2]; rw [if_neg c6] at hu; exact hu, fun H3 s3 => ⟨_, rfl, p, C, dx, _, rfl, s3 _ _ hp2, TL.cl, TL.no _ (by simp [lineNames]), ln_small, fin H3 s3⟩⟩
      · rw [if_neg c5] at hm
        refine ifF (decide_eq_false fun z => c5 (V.str.inj z)) ?_
        refine kk _ off2 ?_
        rw [← Option.some.inj hm]
        exact ob2
end
end K40

namespace K40
open PySem PySem.Spec PyProof.Rows L2 Fm PySem.RingX
theorem linkM_len {k n : Nat} {Ls Ls' : List LineM} (h : linkM k Ls n = some Ls') : Ls'.length = Ls.length := by
  unfold linkM at h
  dsimp only at h
  have ms : ∀ {o : Option Nat} {g : Nat → LineM}, (o.map fun u => Ls.set (n - 1) (g u)) = some Ls' → Ls'.length = Ls.length := fun {o g} e => by
    cases o with
    | none => cases e
    | some u => cases e; rw [List.length_set]
  split at h
  · cases h
  · split at h
    · cases h; rw [List.length_set]
    · split at h
      · split at h
        · exact ms h
        · cases h
      · split at h
        · exact ms h
        · split at h
          · exact ms h
          · cases h; rw [List.length_set]
section
variable {P : Program} {w : World} {K : PySem.W.Frag} {mg : Str → Option Value} {base : Heap}
def spProg (K : PySem.W.Frag) (C CL : Addr) : Sp := fun vs H Q E => ∃ (a : Addr) (texts : List Str) (k : Nat) (r : Except Nat (List LineM)), vs = [.ref a] ∧ SqL K H a (texts.map V.str) ∧ (∀ x ∈ texts, Asc x ∧ x.length ≤ 90000) ∧ texts.length ≤ 1000 ∧ programM k texts = some r ∧ (∀ n : Nat, r = .error n → Rz CL "line" (.int n) H E) ∧
  ∀ Ls, r = .ok Ls → ∀ (t : Addr) (ps : List Addr) (H' : Hp), SqT K H' t (ps.map V.ref) → Objs K C H' ps Ls → Same H H' → (∀ p ∈ ps, H p = none) → Q (.ref t) H'
theorem scProg : FnScope ["texts", "lines", "number"] ["texts"] (defScope s_read_program) := ⟨rfl, rfl, rfl, by decide +kernel, rfl, by decide +kernel, by decide +kernel⟩
theorem goM_len : ∀ (texts : List Str) (n : Nat) (Ls : List LineM) (op : List Nat) (q : List LineM × List Nat), goM texts n Ls op = .ok q → q.1.length = Ls.length + texts.length
  | [], _, _, _, q, h => by cases h; rfl
  | t :: r, n, Ls, op, q, h => by
    unfold goM at h
    cases e : stepM t n Ls op with
    | none => rw [e] at h; cases h
    | some z =>
      rw [e] at h
      have := goM_len r _ _ _ q h
      have l1 : z.1.length = Ls.length + 1 := by
        unfold stepM at e
        cases eo : oneM t n Ls op with
        | none => rw [eo] at e; cases e
        | some y =>
          rw [eo] at e
          cases e
          obtain ⟨y1, y2⟩ := y
          have : y1.length = Ls.length := by
            unfold oneM at eo
            split at eo
            · exact turnM_len eo
            · cases hl : lineM t (decide (aroundM Ls op ≠ 0)) with
              | none => rw [hl] at eo; cases eo
              | some l => rw [hl] at eo; cases eo; rfl
          show (y1 ++ _).length = _
          rw [List.length_append, this]; rfl
      rw [this, l1, List.length_cons]; omega
theorem linesM_len {texts : List Str} {Ls : List LineM} (h : linesM texts = .ok Ls) : Ls.length = texts.length := by
  unfold linesM at h
  cases e : goM texts 1 [] [] with
  | error n => rw [e] at h; cases h
  | ok q =>
    rw [e] at h
    dsimp only at h
    split at h
    · cases h
    · cases h
      rw [goM_len _ _ _ _ _ e]; simp
theorem ok_prog {C CL : Addr} (R : Raw K mg "read_program" s_read_program ["texts"]) (T : GB mg) (DR : Def P w K mg base (L2.CX P w) "read_lines" 8 ["texts"] (spLines K C CL)) (DK : Def P w K mg base CX0 "link" 2 ["lines", "number"] (spLink K C)) : Def P w K mg base (L2.CX P w) "read_program" 9 ["texts"] (spProg K C CL) := by
  obtain ⟨fR, dR, GR, gR, kR, bR⟩ := DR
  obtain ⟨fK, dK, GK, gK, kK, bK⟩ := DK
  refine R.def fun f fd F => F.okX scProg (fun vs H Q E h => ?_) (fun cdv A outer s H vs Q E hr h => ?_)
  · obtain ⟨a, texts, k, r, rfl, _⟩ := h
    rfl
  · obtain ⟨a, texts, k, r, rfl, sq, ha, hlen, hp, kE, kQ⟩ := h
    have hr2 : Room 2 _ := hr.mono (by decide)
    refine ⟨_, pss_cons (ps_set (i := 1) scProg.nd rfl (Or.inl rfl) (pe_call (E := E) GR hr (by rfl) gR kR bR .nil (passes_call (takes_of rfl rfl rfl rfl) (fun _ _ _ _ z => z)) (pa_cons (pv 0) pa_nil)))
      (PSs.nox (pss_cons (ps_for PassesOwn.never rfl (pi_range2 (by rfl) T.range (pa_cons pe_int (pa_cons (pe_op op_add (pe_callB call_len_seq (by rfl) T.len PySem.boot_len (pa_cons (pv 1) pa_nil)) pe_int) pa_nil))) (pg_name (i := 2) scProg.nd rfl (Or.inl rfl))
          (pss_one (ps_expr (pe_call GK hr2 (by rfl) gK kK bK .nil pass0 (pa_cons (pv 1) (pa_cons (pv 2) pa_nil))))))
        (pss_one (ps_ret (pe_tupleOf (by rfl) T.tup (pv 1)))))), ?_⟩
    unfold programM at hp
    refine ⟨_, rfl, a, texts, rfl, sq, ha, hlen, fun n e => ?_, fun Ls0 e0 l ps H1 hl0 hl ob sm fr => ?_⟩
    · rw [e] at hp
      cases hp
      exact kE n rfl
    · rw [e0] at hp
      dsimp only at hp
      cases hk : linkAll k Ls0.length 1 Ls0 with
      | none => rw [hk] at hp; cases hp
      | some Lf =>
        rw [hk] at hp
        have er : Except.ok Lf = r := Option.some.inj hp
        have l0 := linesM_len e0
        have pl : ps.length = Ls0.length := ob.len
        refine ⟨_, rfl, l, _, rfl, .inl (SqL.of hl), _, _, rfl, rfl, 1, ((Ls0.length + 1 : Nat) : Int), by rw [List.length_map, pl]; rfl, ⟨by decide, by decide, by omega, by omega⟩, ?_⟩
        rw [show (((Ls0.length + 1 : Nat) : Int) - 1).toNat = Ls0.length by omega]
        refine for_range (lo := 1) (n := Ls0.length) (fun i σ H' => (∃ x2, σ = [some (.ref a), some (.ref l), x2]) ∧ H' l = some (.lst (ps.map V.ref)) ∧ OffL ps H1 H' ∧ ∃ Ls, Objs K C H' ps Ls ∧ Ls.length = Ls0.length ∧ linkAll k (Ls0.length - i) (i + 1) Ls = some Lf) ⟨⟨_, rfl⟩, hl, OffL.refl _ _, Ls0, ob, rfl, hk⟩ ?_ ?_
        · rintro i σ H2 hi ⟨⟨x2, rfl⟩, hl2, off2, Ls, ob2, hLl, hlk⟩
          rw [show Ls0.length - i = (Ls0.length - (i + 1)) + 1 by omega] at hlk
          unfold linkAll at hlk
          cases hm : linkM k Ls (i + 1) with
          | none => rw [hm] at hlk; cases hlk
          | some Ls' =>
            rw [hm] at hlk
            refine ⟨_, rfl, _, rfl, l, i + 1, ps, Ls, k, Ls', congrArg (fun z => [V.ref l, V.int z]) (by omega), SqL.of hl2, ob2, by omega, by omega, hm, fun H3 off3 ob3 => ?_⟩
            exact ⟨⟨_, rfl⟩, off3 _ _ (ob2.offL hl2) hl2, off2.trans off3, Ls', ob3, (linkM_len hm).trans hLl, hlk⟩
        · rintro σ H2 ⟨⟨x2, rfl⟩, hl2, off2, Ls, ob2, hLl, hlk⟩
          rw [Nat.sub_self] at hlk
          cases hlk
          refine ⟨_, rfl, .inl ⟨l, _, rfl, SqL.of hl2, fun q hq => ?_⟩⟩
          have sq2 := same_upd (o := .tup (ps.map V.ref)) hq
          exact kQ _ er.symm q ps _ (SqT.of upd_same) (ob2.same sq2) ((Same.offL sm off2 fr).trans sq2) fr
end
end K40

namespace Fm
open PySem PySem.Spec PyProof.Rows L2
def kindsL : List Str := ["find", "put", "set", "take", "drop"]
def waysL : List Str := ["plain", "stones", "sorted"]
def kindM (x : Str) : Bool := inV (.str x) (kindsL.map V.str)
def wayM (x : Str) : Bool := inV (.str x) (waysL.map V.str)
def linesOfM (x : Str) : List Str := if x = "" then [] else Txt.split x "\n"
def barredM (kind way : Str) : List Str := (if way = "stones" then ([] : List Str) else [("stone" : Str)]) ++ (if kind = "take" then [("first" : Str), ("key" : Str)] else ([] : List Str))
def barM (kind way : Str) (t : Str) : Bool := (barredM kind way).any fun b => inV (.str b) ((Txt.split t " ").map V.str)
def barTo (kind way : Str) (ts : List Str) : Nat → List Nat
  | 0 => []
  | n + 1 => barTo kind way ts n ++ (match ts[n]? with | some t => if barM kind way t = true then [n + 1] else [] | none => [])
def barsM (kind way : Str) (ts : List Str) : List Nat := barTo kind way ts ts.length
def outerM (l : LineM) : Bool := decide (l.form = "if") && decide (l.loop = 0)
def ifsM (Ls : List LineM) : Nat := (Ls.filter outerM).length
end Fm
namespace K40
open PySem PySem.Spec PyProof.Rows L2 Fm PySem.RingX
/-- a value that is no text -/
def NotStr (K : PySem.W.Frag) (H : Hp) (v : V) : Prop := ∃ T, TyX K H v (.type T) ∧ kitB T "str" = some false
structure TopC (K : PySem.W.Frag) (mg : Str → Option Value) : Prop where
  kinds : ∃ a, mg "KINDS" = some (.ref a) ∧ ∀ H, SqT K H a (kindsL.map V.str)
  ways : ∃ a, mg "WAYS" = some (.ref a) ∧ ∀ H, SqT K H a (waysL.map V.str)
  lines : ∃ t, mg "MOST_LINES" = some (.int 60 t)
  ifs : ∃ t, mg "MOST_IFS" = some (.int 7 t)
  loops : ∃ t, mg "MOST_LOOPS" = some (.int 2 t)
  nexts : ∃ t, mg "MOST_NEXTS" = some (.int 12 t)
  writes : ∃ t, mg "MOST_WRITES" = some (.int 12 t)
  step : ∃ a, mg "STEP" = some (.ref a) ∧ ∀ H, Dp K H (.ref a) (strsD ["at", "at"])
  start : ∃ a, mg "START" = some (.ref a) ∧ ∀ H, Dp K H (.ref a) (strsD ["at", "first"])
section
variable {P : Program} {w : World} {K : PySem.W.Frag} {mg : Str → Option Value} {base : Heap}
def spStrIn (K : PySem.W.Frag) (f : Str → Bool) : Sp := fun vs H Q _ => ∃ v : V, vs = [v] ∧ ((∃ x, v = .str x ∧ Q (.bl (f x)) H) ∨ (NotStr K H v ∧ Q (.bl false) H))
theorem scKind : FnScope ["value"] ["value"] (defScope s_is_kind) := ⟨rfl, rfl, rfl, by decide +kernel, rfl, by decide +kernel, by decide +kernel⟩
theorem ok_kind (R : Raw K mg "is_kind" s_is_kind ["value"]) (T : GB mg) (TC : TopC K mg) : Def P w K mg base CX0 "is_kind" 1 ["value"] (spStrIn K kindM) := by
  obtain ⟨a, g, hs⟩ := TC.kinds
  refine R.def fun f fd F => F.ok scKind (fun vs H Q E h => ?_) (fun cdv A outer s H vs Q E hr h => ?_)
  · obtain ⟨v, rfl, _⟩ := h
    rfl
  · obtain ⟨v, rfl, h⟩ := h
    refine ⟨_, pss_one (ps_ret (pe_and (pe_callB call_isi (by rfl) T.isi (by decide +kernel) (pa_cons (pv 0) (pa_cons (pe_bltn (v := .ty "str") (by rfl) T.str (by decide +kernel) rfl) pa_nil)))
        (pe_one (pe_cmpR op_in_seq (pv 0) (pe_glob (v := .ref a) (by rfl) g rfl) (by rfl))))), ?_⟩
    rcases h with ⟨x, rfl, k⟩ | ⟨⟨T0, t1, t2⟩, k⟩
    · exact ⟨_, rfl, .str x, _, _, _, true, rfl, .ty _, .base (.str x), kit_ty (by kernel_rfl), _, rfl, iteT ⟨_, rfl, a, _, rfl, .inr (hs H), rfl, by kernel_rfl, k⟩⟩
    · exact ⟨_, rfl, v, _, _, _, false, rfl, .ty _, t1, kit_ty t2, _, rfl, iteF k⟩
theorem scWayC : FnScope ["value"] ["value"] (defScope s_is_way) := ⟨rfl, rfl, rfl, by decide +kernel, rfl, by decide +kernel, by decide +kernel⟩
theorem ok_wayC (R : Raw K mg "is_way" s_is_way ["value"]) (T : GB mg) (TC : TopC K mg) : Def P w K mg base CX0 "is_way" 1 ["value"] (spStrIn K wayM) := by
  obtain ⟨a, g, hs⟩ := TC.ways
  refine R.def fun f fd F => F.ok scWayC (fun vs H Q E h => ?_) (fun cdv A outer s H vs Q E hr h => ?_)
  · obtain ⟨v, rfl, _⟩ := h
    rfl
  · obtain ⟨v, rfl, h⟩ := h
    refine ⟨_, pss_one (ps_ret (pe_and (pe_callB call_isi (by rfl) T.isi (by decide +kernel) (pa_cons (pv 0) (pa_cons (pe_bltn (v := .ty "str") (by rfl) T.str (by decide +kernel) rfl) pa_nil)))
        (pe_one (pe_cmpR op_in_seq (pv 0) (pe_glob (v := .ref a) (by rfl) g rfl) (by rfl))))), ?_⟩
    rcases h with ⟨x, rfl, k⟩ | ⟨⟨T0, t1, t2⟩, k⟩
    · exact ⟨_, rfl, .str x, _, _, _, true, rfl, .ty _, .base (.str x), kit_ty (by kernel_rfl), _, rfl, iteT ⟨_, rfl, a, _, rfl, .inr (hs H), rfl, by kernel_rfl, k⟩⟩
    · exact ⟨_, rfl, v, _, _, _, false, rfl, .ty _, t1, kit_ty t2, _, rfl, iteF k⟩
def spLinesOf : Sp := fun vs H Q _ => ∃ x : Str, vs = [.str x] ∧ x.length ≤ 100000 ∧ ∀ p, H p = none → Q (.ref p) (upd H p (.lst ((linesOfM x).map V.str)))
theorem scLinesOf : FnScope ["text"] ["text"] (defScope s_lines_of) := ⟨rfl, rfl, rfl, by decide +kernel, rfl, by decide +kernel, by decide +kernel⟩
theorem ok_linesOf (R : Raw K mg "lines_of" s_lines_of ["text"]) : Def P w K mg base CX0 "lines_of" 1 ["text"] spLinesOf := by
  refine R.def fun f fd F => F.ok scLinesOf (fun vs H Q E h => ?_) (fun cdv A outer s H vs Q E hr h => ?_)
  · obtain ⟨x, rfl, _⟩ := h
    rfl
  · obtain ⟨x, rfl, hl, k⟩ := h
    refine ⟨_, pss_one (ps_ret (pe_ifExp (pt_cmpR op_ne (pv 0) pe_str (nomark _)) (pe_split (pv 0) pe_str) (pe_lst pa_nil))), ?_⟩
    refine ⟨_, rfl, rfl, _, rfl, ?_⟩
    unfold linesOfM at k
    by_cases c : x = ""
    · rw [if_pos c] at k
      exact ifF (by rw [decide_eq_true (congrArg V.str c)]; rfl) ⟨(by show 0 ≤ sizeLine; decide), fun p hp => k p hp⟩
    · rw [if_neg c] at k
      exact ifT (by rw [decide_eq_false fun z => c (V.str.inj z)]; rfl) ⟨_, rfl, ⟨_, rfl⟩, x, "\n", rfl, rfl, by decide +kernel, by rw [sizeLine_eq]; omega, fun p hp => k p hp⟩
def spBarW : Sp := fun vs H Q _ => ∃ k x : Str, vs = [.str k, .str x] ∧ ∀ p H', H p = none → Same H H' → H' p = some (.lst ((barredM k x).map V.str)) → Q (.ref p) H'
theorem scBarW : FnScope ["kind", "way", "barred"] ["kind", "way"] (defScope s_barred_words) := ⟨rfl, rfl, rfl, by decide +kernel, rfl, by decide +kernel, by decide +kernel⟩
theorem ok_barW (R : Raw K mg "barred_words" s_barred_words ["kind", "way"]) : Def P w K mg base CX0 "barred_words" 1 ["kind", "way"] spBarW := by
  refine R.def fun f fd F => F.ok scBarW (fun vs H Q E h => ?_) (fun cdv A outer s H vs Q E hr h => ?_)
  · obtain ⟨k, x, rfl, _⟩ := h
    rfl
  · obtain ⟨kd, x, rfl, k⟩ := h
    obtain ⟨tR, pR, qR⟩ : ∃ tR, PSs (cxOf CX0 P w K mg base ["kind", "way", "barred"] "barred_words" (defScope s_barred_words) f cdv A outer s H E).nox ((defBody s_barred_words).drop 2) tR ∧
        ∀ (p : Addr) (bs : List Str) (H1 : Hp), H p = none → Same H H1 → H1 p = some (.lst (bs.map V.str)) → bs.length ≤ 5 → barredM kd x = bs ++ (if kd = "take" then [("first" : Str), ("key" : Str)] else ([] : List Str)) → tR { nx := fun _ H' => Q .non H', rt := Q } [some (.str kd), some (.str x), some (.ref p)] H1 := by
      refine ⟨_, pss_cons (ps_if (pt_cmpR op_eq (pv 0) pe_str (nomark _)) (pss_one (ps_expr (pe_bm PySem.F.plainAttrs_list PySem.F.slot_list_extend PySem.F.type_list_extend mt_extend (pv 2) (pa_cons (pe_lst (pa_cons pe_str (pa_cons pe_str pa_nil))) pa_nil)))) pss_nil)
        (pss_one (ps_ret (pv 2))), ?_⟩
      intro p bs H1 hp s1 h1 hl eb
      refine ⟨_, rfl, rfl, _, rfl, ?_⟩
      by_cases c : kd = "take"
      · rw [if_pos c] at eb
        refine ifT (decide_eq_true (congrArg V.str c)) ⟨_, rfl, .inl ⟨rfl, _, SqL.of h1⟩, (by show 2 ≤ sizeLine; decide), fun q hq => ?_⟩
        have sq := same_upd (o := .lst [V.str "first", V.str "key"]) hq
        refine ⟨p, q, _, _, rfl, rfl, sq _ _ h1, upd_same, by rw [List.length_map, sizeLine_eq]; show bs.length + 2 ≤ _; omega, _, rfl, ?_⟩
        refine k p _ hp ((s1.trans sq).updl hp) ?_
        rw [upd_same, eb, List.map_append]; rfl
      · rw [if_neg c, List.append_nil] at eb
        exact ifF (decide_eq_false fun z => c (V.str.inj z)) ⟨_, rfl, k p _ hp s1 (by rw [eb]; exact h1)⟩
    refine ⟨_, pss_cons (ps_set (i := 2) scBarW.nd rfl (Or.inl rfl) (pe_lst pa_nil)) (pss_cons (ps_if (pt_cmpR op_ne (pv 1) pe_str (nomark _)) (pss_one (ps_expr (pe_bm PySem.F.plainAttrs_list PySem.F.slot_list_append PySem.F.type_list_append mt_append (pv 2) (pa_cons pe_str pa_nil)))) pss_nil) pR), ?_⟩
    refine ⟨(by show 0 ≤ sizeLine; decide), fun p hp => ?_⟩
    have s1 := same_upd (o := .lst []) hp
    refine ⟨_, rfl, rfl, _, rfl, ?_⟩
    by_cases c : x = "stones"
    · exact ifF (by rw [decide_eq_true (congrArg V.str c)]; rfl) (qR p [] _ hp s1 upd_same (by decide) (by unfold barredM; rw [if_pos c]))
    · refine ifT (by rw [decide_eq_false fun z => c (V.str.inj z)]; rfl) ⟨_, rfl, .inl ⟨rfl, _, SqL.of upd_same⟩, p, _, _, rfl, rfl, upd_same, by show 0 < sizeLine; decide, ?_⟩
      rw [upd_upd]
      exact qR p ["stone"] _ hp (same_upd hp) upd_same (by decide) (by unfold barredM; rw [if_neg c])
end
end K40

namespace K40
open PySem PySem.Spec PyProof.Rows L2 Fm PySem.RingX
abbrev intL (ns : List Nat) : List V := ns.map fun n : Nat => V.int n
theorem barTo_len (kd x : Str) (ts : List Str) : ∀ n, (barTo kd x ts n).length ≤ n
  | 0 => Nat.le_refl _
  | n + 1 => by
    unfold barTo
    have := barTo_len kd x ts n
    rw [List.length_append]
    split
    · split
      · show _ + 1 ≤ _; omega
      · show _ + 0 ≤ _; omega
    · show _ + 0 ≤ _; omega
section
variable {P : Program} {w : World} {K : PySem.W.Frag} {mg : Str → Option Value} {base : Heap}
def nBL : List Str := ["kind", "way", "texts", "barred", "found", "number", "text", "words", "word"]
def spBarL (K : PySem.W.Frag) : Sp := fun vs H Q _ => ∃ (k x : Str) (a : Addr) (ts : List Str), vs = [.str k, .str x, .ref a] ∧ SqL K H a (ts.map V.str) ∧ (∀ t ∈ ts, Asc t) ∧ ts.length ≤ 1000 ∧ ∀ p H', H p = none → Same H H' → H' p = some (.lst (intL (barsM k x ts))) → Q (.ref p) H'
theorem scBarL : FnScope nBL ["kind", "way", "texts"] (defScope s_barred_lines) := ⟨rfl, rfl, rfl, by decide +kernel, rfl, by decide +kernel, by decide +kernel⟩
theorem ok_barL (R : Raw K mg "barred_lines" s_barred_lines ["kind", "way", "texts"]) (T : GB mg) (DB : Def P w K mg base CX0 "barred_words" 1 ["kind", "way"] spBarW) : Def P w K mg base CX0 "barred_lines" 2 ["kind", "way", "texts"] (spBarL K) := by
  obtain ⟨fB, dB, GB_, gB, kB, bB⟩ := DB
  refine R.def fun f fd F => F.ok scBarL (fun vs H Q E h => ?_) (fun cdv A outer s H vs Q E hr h => ?_)
  · obtain ⟨k, x, a, ts, rfl, _⟩ := h
    rfl
  · obtain ⟨kd, x, a, ts, rfl, sq, ha, hl, k⟩ := h
    refine ⟨_, pss_cons (ps_set (i := 3) scBarL.nd rfl (Or.inl rfl) (pe_call GB_ hr (by rfl) gB kB bB .nil pass0 (pa_cons (pv 0) (pa_cons (pv 1) pa_nil))))
      (pss_cons (ps_set (i := 4) scBarL.nd rfl (Or.inl rfl) (pe_lst pa_nil))
      (pss_cons (ps_for PassesOwn.never rfl (pi_enumS (by decide) (by decide) (by rfl) T.enum (pa_cons (pv 2) pa_nil)) (pg_tup rfl (pgs_cons (pg_name (i := 5) scBarL.nd rfl (Or.inl rfl)) (pgs_cons (pg_name (i := 6) scBarL.nd rfl (Or.inl rfl)) pgs_nil)))
        (pss_cons (ps_set (i := 7) scBarL.nd rfl (Or.inr rfl) (pe_split (pv 6) pe_str))
        (pss_one (ps_if (pt_val (pe_callB (cr_any rfl) (by rfl) T.any (by decide +kernel) (pa_cons (pe_lc (own := [("word", 8)]) (g := gName 8) (tt := tYes) rfl scBarL.nd (pi_list (pv 3)) (blkOk_by (own := [("word", 8)]) (N := nBL) (sc := defScope s_barred_lines) (by decide +kernel))
            (fun _ _ _ _ _ => pg_name (i := 8) scBarL.nd rfl (Or.inl rfl)) (fun _ _ _ _ _ => pts_nil) (fun _ _ _ _ _ => pe_cmpR (show OpR _ _ (rIn K false) from op_in_seq) (pv 8) (pv 7) (by rfl))) pa_nil)))
          (pss_one (ps_expr (pe_bm PySem.F.plainAttrs_list PySem.F.slot_list_append PySem.F.type_list_append mt_append (pv 4) (pa_cons (pv 5) pa_nil)))) pss_nil))))
      (pss_one (ps_ret (pv 4))))), ?_⟩
    refine ⟨_, rfl, _, rfl, kd, x, rfl, fun pb H1 hpb s1 hb => ?_⟩
    refine ⟨(by show 0 ≤ sizeLine; decide), fun p hp => ?_⟩
    have s2 := s1.trans (same_upd (o := .lst []) hp)
    have hb2 := same_upd (o := .lst []) hp _ _ hb
    have nbp : pb ≠ p := ne_of_none hb hp
    have hp0 : H p = none := by
      cases e : H p with
      | none => rfl
      | some u => rw [s1 _ _ e] at hp; cases hp
    have bl : (barredM kd x).length ≤ 3 := by
      unfold barredM
      rw [List.length_append]
      split <;> split <;> decide
    refine ⟨_, rfl, a, _, rfl, s2.seq sq, for_enumS (K := K) (a := a) (k := 1) (xs := ts.map V.str) (fun i σ H' => (∃ x5 x6 x7, σ = [some (.str kd), some (.str x), some (.ref a), some (.ref pb), some (.ref p), x5, x6, x7, none]) ∧ Same H H' ∧ H' pb = some (.lst ((barredM kd x).map V.str)) ∧ H' p = some (.lst (intL (barTo kd x ts i)))) ⟨⟨_, _, _, rfl⟩, s2, hb2, upd_same⟩ (fun i σ H' _ h => h.2.1.seq sq) ?_ ?_⟩
    · rintro i y Tt σ H2 hx ⟨⟨x5, x6, x7, rfl⟩, s3, h3b, h3p⟩ hT
      rw [List.getElem?_map] at hx
      obtain ⟨t, ht, rfl⟩ := Option.map_eq_some_iff.mp hx
      have at1 := ha t (List.mem_of_getElem? ht)
      have hi : i < ts.length := (List.getElem?_eq_some_iff.mp ht).1
      have eN : (1 : Int) + (i : Nat) = ((i + 1 : Nat) : Int) := by omega
      refine ⟨Tt, _, rfl, SqT.of upd_same, rfl, _, _, rfl, _, _, rfl, rfl, ?_⟩
      rw [eN] at *
      have sT := same_upd (o := .tup [V.int ((i + 1 : Nat) : Int), V.str t]) hT
      refine ⟨_, rfl, ⟨_, rfl⟩, t, " ", rfl, rfl, by decide +kernel, by rw [sizeLine_eq]; have := at1.2; omega, fun pw hpw => ?_⟩
      have sW := sT.trans (same_upd (o := .lst ((Txt.split t " ").map V.str)) hpw)
      generalize hH3 : upd (upd H2 Tt (.tup [V.int ((i + 1 : Nat) : Int), V.str t])) pw (.lst ((Txt.split t " ").map V.str)) = H3 at *
      have hw : H3 pw = some (.lst ((Txt.split t " ").map V.str)) := by rw [← hH3, upd_same]
      have hb3 := sW _ _ h3b
      have hp3 := sW _ _ h3p
      have sH3 := s3.trans sW
      refine ⟨_, rfl, pb, rfl, ⟨_, SqL.of hb3⟩, fun D hD => lc_list (K := K) (a := pb) (xs := (barredM kd x).map V.str) (fun j H' => Same H3 H' ∧ H' D = some (.lst (((barredM kd x).take j).map fun b => V.bl (inV (.str b) ((Txt.split t " ").map V.str))))) ⟨same_upd hD, upd_same⟩ (fun j H' _ h => SqL.of (h.1 _ _ hb3)) ?_ ?_⟩
      · rintro j y H4 hy ⟨s4, h4⟩
        rw [List.getElem?_map] at hy
        obtain ⟨b, hb', rfl⟩ := Option.map_eq_some_iff.mp hy
        refine ⟨rfl, _, rfl, _, rfl, pw, _, rfl, .inl (SqL.of (s4 _ _ hw)), rfl, by rw [List.all_map]; exact List.all_eq_true.mpr fun _ _ => rfl, _, h4, ?_, fun y o hy => ?_, ?_⟩
        · rw [List.length_map, List.length_take, sizeLine_eq]; omega
        · rw [upd_ne (ne_of_none hy hD)]; exact s4 y o hy
        · rw [upd_same, take_more hb', List.map_append]; rfl
      · rintro H4 ⟨s4, h4⟩
        rw [List.length_map, List.take_length] at h4
        refine ⟨D, (barredM kd x).map fun b => inV (.str b) ((Txt.split t " ").map V.str), rfl, ?_, ?_⟩
        · refine SqL.of (h4.trans ?_)
          rw [List.map_map]; rfl
        rw [any_map]
        refine ⟨_, rfl, ?_⟩
        have h4b := s4 _ _ hb3
        have h4p := s4 _ _ hp3
        have e1 : barTo kd x ts (i + 1) = barTo kd x ts i ++ (if barM kd x t = true then [i + 1] else []) := by
          show barTo kd x ts i ++ (match ts[i]? with | some t => if barM kd x t = true then [i + 1] else [] | none => []) = _
          rw [ht]
        show if barM kd x t = true then _ else _
        cases c : barM kd x t with
        | true =>
          rw [c, if_pos rfl] at e1
          have bt := barTo_len kd x ts i
          refine iteT ⟨_, rfl, .inl ⟨rfl, _, SqL.of h4p⟩, _, rfl, p, _, _, rfl, rfl, h4p, by rw [List.length_map, sizeLine_eq]; omega, ⟨_, _, _, rfl⟩, (sH3.trans s4).updl hp0, ?_, ?_⟩
          · rw [upd_ne nbp]; exact h4b
          · rw [upd_same, e1]
            show _ = some (HO.lst ((barTo kd x ts i ++ [i + 1]).map _))
            rw [List.map_append]; rfl
        | false =>
          rw [c, if_neg (by decide), List.append_nil] at e1
          exact iteF ⟨⟨_, _, _, rfl⟩, sH3.trans s4, h4b, by rw [e1]; exact h4p⟩
    · rintro σ H2 ⟨⟨x5, x6, x7, rfl⟩, s3, h3b, h3p⟩
      rw [List.length_map] at h3p
      exact ⟨_, rfl, k p H2 hp0 s3 h3p⟩
def spIfs (K : PySem.W.Frag) (C : Addr) : Sp := fun vs H Q _ => ∃ (t : Addr) (ps : List Addr) (Ls : List LineM), vs = [.ref t] ∧ SqT K H t (ps.map V.ref) ∧ Objs K C H ps Ls ∧ Ls.length ≤ 1000 ∧ ∀ H', Same H H' → Q (.int (ifsM Ls)) H'
theorem scIfs : FnScope ["program", "line"] ["program"] (defScope s_outer_ifs) := ⟨rfl, rfl, rfl, by decide +kernel, rfl, by decide +kernel, by decide +kernel⟩
theorem ok_ifs {C : Addr} (R : Raw K mg "outer_ifs" s_outer_ifs ["program"]) (T : GB mg) (TL : ClsT K mg C "Line" lineNames) : Def P w K mg base CX0 "outer_ifs" 1 ["program"] (spIfs K C) := by
  refine R.def fun f fd F => F.ok scIfs (fun vs H Q E h => ?_) (fun cdv A outer s H vs Q E hr h => ?_)
  · obtain ⟨t, ps, Ls, rfl, _⟩ := h
    rfl
  · obtain ⟨t, ps, Ls, rfl, sq, ob, hl, k⟩ := h
    refine ⟨_, pss_one (ps_ret (pe_callB call_len_seq (by rfl) T.len PySem.boot_len (pa_cons (pe_lc (own := [("line", 1)]) (g := gName 1) rfl scIfs.nd (pi_tup (pv 0)) (blkOk_by (own := [("line", 1)]) (N := ["program", "line"]) (sc := defScope s_outer_ifs) (by decide +kernel))
          (fun _ _ _ _ _ => pg_name (i := 1) scIfs.nd rfl (Or.inl rfl)) (fun _ _ _ _ _ => pts_one (PW.pt (pw_and (pt_cmpR (show OpR _ _ rEq from op_eq) (show PE _ _ (tFld K (tVar 1) "form") from pe_fld (pv 1) rfl) pe_str (nomark _)) (pw_and1 (pt_cmpR (show OpR _ _ rEq from op_eq) (show PE _ _ (tFld K (tVar 1) "loop") from pe_fld (pv 1) rfl) pe_int (nomark _)))))) (fun _ _ _ _ _ => pv 1)) pa_nil))), ?_⟩
    have pl : ps.length = Ls.length := ob.len
    refine ⟨_, rfl, t, rfl, ⟨_, sq⟩, fun D hD => lc_tup (K := K) (a := t) (xs := ps.map V.ref) (fun i H' => Same H H' ∧ ∃ ys, H' D = some (.lst ys) ∧ ys.length = ((Ls.take i).filter outerM).length) ⟨same_upd hD, [], upd_same, rfl⟩ (fun i H' _ h => h.1.sqT sq) ?_ ?_⟩
    · rintro i y H1 hy ⟨s1, ys, h1, l1⟩
      rw [List.getElem?_map] at hy
      obtain ⟨p, hp, rfl⟩ := Option.map_eq_some_iff.mp hy
      have hi : i < Ls.length := by rw [← pl]; exact (List.getElem?_eq_some_iff.mp hp).1
      obtain ⟨dx, vw, vt, hln, _⟩ := (ob.same s1).each i p Ls[i] hp (List.getElem?_eq_getElem hi)
      have sm : ys.length < sizeLine := by
        have := List.length_filter_le outerM (Ls.take i)
        rw [List.length_take] at this
        rw [sizeLine_eq]; omega
      have em : ∀ b, outerM Ls[i] = b → ((Ls.take (i + 1)).filter outerM).length = ((Ls.take i).filter outerM).length + (if b = true then 1 else 0) := fun b e => by
        rw [take_more (List.getElem?_eq_getElem hi), List.filter_append, List.length_append, List.filter_cons, e]
        cases b <;> rfl
      refine ⟨rfl, _, rfl, p, C, dx, _, _, rfl, hln, TL.cl, TL.no _ (by simp [lineNames]), ln_form .., rfl, _, rfl, ?_⟩
      by_cases c1 : Ls[i].form = "if"
      · refine ifT (decide_eq_true (congrArg V.str c1)) ⟨_, rfl, p, C, dx, _, _, rfl, hln, TL.cl, TL.no _ (by simp [lineNames]), ln_loop .., rfl, _, rfl, ?_⟩
        by_cases c2 : Ls[i].loop = 0
        · have e := em true (by unfold outerM; rw [decide_eq_true c1, decide_eq_true c2]; rfl)
          rw [decide_eq_true (by rw [c2]; rfl)]
          refine iteT ⟨_, rfl, ys, h1, sm, s1.updl hD, _, upd_same, ?_⟩
          rw [List.length_append, l1, e]; rfl
        · have e := em false (by unfold outerM; rw [decide_eq_false c2, Bool.and_false])
          rw [decide_eq_false (fun z => c2 (by have := V.int.inj z; omega))]
          exact iteF ⟨s1, ys, h1, by rw [l1, e]; rfl⟩
      · have e := em false (by unfold outerM; rw [decide_eq_false c1, Bool.false_and])
        exact ifF (decide_eq_false fun z => c1 (V.str.inj z)) (iteF ⟨s1, ys, h1, by rw [l1, e]; rfl⟩)
    · rintro H1 ⟨s1, ys, h1, l1⟩
      rw [List.length_map, pl, List.take_length] at l1
      refine ⟨D, _, rfl, .inl (SqL.of h1), ?_⟩
      rw [l1]
      exact k H1 s1
end
end K40

namespace Fm
open PySem PySem.Spec PyProof.Rows L2
def waysM : Nat → List LineM → List (List Nat × Nat) → List (List Nat) → Option (List (List Nat))
  | 0, _, _, _ => none
  | k + 1, Ls, wt, ways => match wt.getLast? with
    | none => some ways
    | some q =>
      if q.2 > Ls.length then waysM k Ls wt.dropLast (ways ++ [q.1])
      else if q.2 = 0 then none
      else
        let w1 := if (lineAt Ls q.2).form = "walk" then wt.dropLast else wt.dropLast ++ [(q.1 ++ [q.2], (lineAt Ls q.2).thn)]
        let w2 := if opensM (lineAt Ls q.2).form = true then w1 ++ [(q.1 ++ [q.2], (lineAt Ls q.2).oth)] else w1
        waysM k Ls w2 ways
end Fm
namespace K40
open PySem PySem.Spec PyProof.Rows L2 Fm PySem.RingX
/-- what waits: its tuple, its list, the way, the number -/
structure Wt where
  (t a : Addr) (way : List Nat) (n : Nat)
def Wt.at_ (H : Hp) (y z : Addr) (x : Wt) : Prop := H x.t = some (.tup [.ref x.a, .int x.n]) ∧ H x.a = some (.lst (intL x.way)) ∧ x.a ≠ y ∧ x.a ≠ z
def Way.at_ (H : Hp) (y z : Addr) (q : Addr × List Nat) : Prop := H q.1 = some (.lst (intL q.2)) ∧ q.1 ≠ y ∧ q.1 ≠ z
theorem Wt.at_.keep {H H' : Hp} {y z : Addr} {x : Wt} (h : x.at_ H y z) (s : ∀ b u, b ≠ y → b ≠ z → H b = some u → H' b = some u) (hy : ∃ xs, H y = some (.lst xs)) (hz : ∃ xs, H z = some (.lst xs)) : x.at_ H' y z := by
  obtain ⟨h1, h2, h3, h4⟩ := h
  obtain ⟨xs, hy⟩ := hy
  obtain ⟨zs, hz⟩ := hz
  exact ⟨s _ _ (ne_of h1 hy (fun z => nomatch z)) (ne_of h1 hz (fun z => nomatch z)) h1, s _ _ h3 h4 h2, h3, h4⟩
theorem Way.at_.keep {H H' : Hp} {y z : Addr} {q : Addr × List Nat} (h : Way.at_ H y z q) (s : ∀ b u, b ≠ y → b ≠ z → H b = some u → H' b = some u) : Way.at_ H' y z q := ⟨s _ _ h.2.1 h.2.2 h.1, h.2⟩
/-- between two turns: w the list that waits, y the ways -/
structure InvW (H0 H : Hp) (w y : Addr) (W : List Wt) (Y : List (Addr × List Nat)) : Prop where
  sm : Same H0 H
  hw : H w = some (.lst (W.map fun x => V.ref x.t))
  hy : H y = some (.lst (Y.map fun q => V.ref q.1))
  ew : ∀ x ∈ W, x.at_ H w y
  ey : ∀ q ∈ Y, Way.at_ H w y q
  fw : ∀ x ∈ W, H0 x.a = none
  fy : ∀ q ∈ Y, H0 q.1 = none
theorem InvW.same {H0 H H' : Hp} {w y : Addr} {W : List Wt} {Y : List (Addr × List Nat)} (I : InvW H0 H w y W Y) (s : Same H H') : InvW H0 H' w y W Y :=
  ⟨I.sm.trans s, s _ _ I.hw, s _ _ I.hy, fun x hx => (I.ew x hx).keep (fun b u _ _ e => s b u e) ⟨_, I.hw⟩ ⟨_, I.hy⟩, fun q hq => (I.ey q hq).keep fun b u _ _ e => s b u e, I.fw, I.fy⟩
section
variable {H0 H : Hp} {w y : Addr} {W : List Wt} {Y : List (Addr × List Nat)}
theorem InvW.pop {x : Wt} (I : InvW H0 H w y (W ++ [x]) Y) (nw : w ≠ y) (w0 : H0 w = none) : InvW H0 (upd H w (.lst (W.map fun x => V.ref x.t))) w y W Y := by
  have s : ∀ b u, b ≠ w → b ≠ y → H b = some u → (upd H w (.lst (W.map fun x => V.ref x.t))) b = some u := fun b u h1 _ e => by rw [upd_ne h1]; exact e
  exact ⟨I.sm.updl w0, upd_same, by rw [upd_ne (Ne.symm nw)]; exact I.hy, fun x hx => (I.ew x (List.mem_append_left _ hx)).keep s ⟨_, I.hw⟩ ⟨_, I.hy⟩, fun q hq => (I.ey q hq).keep s, fun x hx => I.fw x (List.mem_append_left _ hx), I.fy⟩
theorem InvW.push {x : Wt} (I : InvW H0 H w y W Y) (hx : x.at_ H w y) (hx0 : H0 x.a = none) (nw : w ≠ y) (w0 : H0 w = none) : InvW H0 (upd H w (.lst ((W.map fun x => V.ref x.t) ++ [V.ref x.t]))) w y (W ++ [x]) Y := by
  have s : ∀ b u, b ≠ w → b ≠ y → H b = some u → (upd H w (.lst ((W.map fun x => V.ref x.t) ++ [V.ref x.t]))) b = some u := fun b u h1 _ e => by rw [upd_ne h1]; exact e
  refine ⟨I.sm.updl w0, by rw [upd_same, List.map_append]; rfl, by rw [upd_ne (Ne.symm nw)]; exact I.hy, fun z hz => ?_, fun q hq => (I.ey q hq).keep s, fun z hz => ?_, I.fy⟩
  · rcases List.mem_append.mp hz with hz | hz
    · exact (I.ew z hz).keep s ⟨_, I.hw⟩ ⟨_, I.hy⟩
    · rw [List.mem_singleton.mp hz]; exact hx.keep s ⟨_, I.hw⟩ ⟨_, I.hy⟩
  · rcases List.mem_append.mp hz with hz | hz
    · exact I.fw z hz
    · rw [List.mem_singleton.mp hz]; exact hx0
theorem InvW.put {q : Addr × List Nat} (I : InvW H0 H w y W Y) (hq : Way.at_ H w y q) (hq0 : H0 q.1 = none) (nw : w ≠ y) (y0 : H0 y = none) : InvW H0 (upd H y (.lst ((Y.map fun q => V.ref q.1) ++ [V.ref q.1]))) w y W (Y ++ [q]) := by
  have s : ∀ b u, b ≠ w → b ≠ y → H b = some u → (upd H y (.lst ((Y.map fun q => V.ref q.1) ++ [V.ref q.1]))) b = some u := fun b u _ h1 e => by rw [upd_ne h1]; exact e
  refine ⟨I.sm.updl y0, by rw [upd_ne nw]; exact I.hw, by rw [upd_same, List.map_append]; rfl, fun z hz => (I.ew z hz).keep s ⟨_, I.hw⟩ ⟨_, I.hy⟩, fun z hz => ?_, I.fw, fun z hz => ?_⟩
  · rcases List.mem_append.mp hz with hz | hz
    · exact (I.ey z hz).keep s
    · rw [List.mem_singleton.mp hz]; exact hq.keep s
  · rcases List.mem_append.mp hz with hz | hz
    · exact I.fy z hz
    · rw [List.mem_singleton.mp hz]; exact hq0
theorem InvW.step {way : List Nat} {n m : Nat} {q1 q2 q3 : Addr} (I : InvW H0 H w y W Y) (nw : w ≠ y) (w0 : H0 w = none) (h1 : H q1 = none) (h2 : upd H q1 (.lst [V.int n]) q2 = none) (h3 : upd (upd H q1 (.lst [V.int n])) q2 (.lst (intL way ++ [V.int n])) q3 = none) :
    InvW H0 (upd (upd (upd (upd H q1 (.lst [V.int n])) q2 (.lst (intL way ++ [V.int n]))) q3 (.tup [V.ref q2, V.int m])) w (.lst ((W.map fun x => V.ref x.t) ++ [V.ref q3]))) w y (W ++ [⟨q3, q2, way ++ [n], m⟩]) Y := by
  have s1 := same_upd (o := .lst [V.int n]) h1
  have s2 := same_upd (o := .lst (intL way ++ [V.int n])) h2
  have s3 := same_upd (o := .tup [V.ref q2, V.int m]) h3
  have I3 := ((I.same s1).same s2).same s3
  refine I3.push (x := ⟨q3, q2, way ++ [n], m⟩) ⟨upd_same, ?_, ?_, ?_⟩ ?_ nw w0
  · refine (s3 _ _ upd_same).trans ?_
    show some (HO.lst (intL way ++ [V.int n])) = some (HO.lst ((way ++ [n]).map _))
    rw [List.map_append]; rfl
  · exact (ne_of_none (s1 _ _ I.hw) h2).symm
  · exact (ne_of_none (s1 _ _ I.hy) h2).symm
  · cases e : H0 q2 with
    | none => rfl
    | some u => rw [s1 _ _ (I.sm _ _ e)] at h2; cases h2
end
def whileB : Stmt → List Stmt | .While _ b _ _ => b | _ => []
section
variable {P : Program} {w : World} {K : PySem.W.Frag} {mg : Str → Option Value} {base : Heap}
def nAW : List Str := ["program", "ways", "waiting", "way", "number", "line"]
def spWays (K : PySem.W.Frag) (C : Addr) : Sp := fun vs H Q _ => ∃ (t : Addr) (ps : List Addr) (Ls : List LineM) (k : Nat) (ways : List (List Nat)), vs = [.ref t] ∧ SqT K H t (ps.map V.ref) ∧ Objs K C H ps Ls ∧ k ≤ 100000 ∧ waysM k Ls [([], 1)] [] = some ways ∧
  ∀ (p : Addr) (Y : List (Addr × List Nat)) (H' : Hp), H p = none → Same H H' → H' p = some (.lst (Y.map fun q => V.ref q.1)) → Y.map (·.2) = ways → (∀ q ∈ Y, H' q.1 = some (.lst (intL q.2)) ∧ H q.1 = none) → Q (.ref p) H'
theorem scWays : FnScope nAW ["program"] (defScope s_all_ways) := ⟨rfl, rfl, rfl, by decide +kernel, rfl, by decide +kernel, by decide +kernel⟩
theorem ok_ways {C : Addr} (R : Raw K mg "all_ways" s_all_ways ["program"]) (T : GB mg) (TL : ClsT K mg C "Line" lineNames) : Def P w K mg base CX0 "all_ways" 1 ["program"] (spWays K C) := by
  refine R.def fun f fd F => F.ok scWays (fun vs H Q E h => ?_) (fun cdv A outer s H vs Q E hr h => ?_)
  · obtain ⟨t, ps, Ls, k, ways, rfl, _⟩ := h
    rfl
  · obtain ⟨t, ps, Ls, k, ways, rfl, sq, ob, hk, hw, kk⟩ := h
    have pl : ps.length = Ls.length := ob.len
    obtain ⟨tE, pE, qE⟩ : ∃ tE, PSs (cxOf CX0 P w K mg base nAW "all_ways" (defScope s_all_ways) f cdv A outer s H E).nox ((whileB (nthS (defBody s_all_ways) 2)).drop 4) tE ∧
        ∀ (D : Ends) (y w : Addr) (a p : Addr) (n : Nat) (way : List Nat) (W : List Wt) (Y : List (Addr × List Nat)) (H1 : Hp), w ≠ y → H w = none → InvW H H1 w y W Y → H1 a = some (.lst (intL way)) → LineAt K C H1 p (lineAt Ls n) → way.length ≤ 200000 → W.length ≤ 200000 →
          (∀ W' H2, W'.map (fun x => (x.way, x.n)) = W.map (fun x => (x.way, x.n)) ++ (if opensM (lineAt Ls n).form = true then [(way ++ [n], (lineAt Ls n).oth)] else []) → InvW H H2 w y W' Y → D.nx [some (.ref t), some (.ref y), some (.ref w), some (.ref a), some (.int n), some (.ref p)] H2) →
          tE D [some (.ref t), some (.ref y), some (.ref w), some (.ref a), some (.int n), some (.ref p)] H1 := by
      refine ⟨_, pss_one (ps_if (pt_cmpR op_in_seq (pe_fld (pv 5) rfl) (pe_tup (pa_cons pe_str (pa_cons pe_str pa_nil))) (by rfl)) (pss_one (ps_expr (pe_bm PySem.F.plainAttrs_list PySem.F.slot_list_append PySem.F.type_list_append mt_append (pv 2) (pa_cons (pe_tup (pa_cons (pe_op op_cat (pv 3) (pe_lst (pa_cons (pv 4) pa_nil))) (pa_cons (pe_fld (pv 5) rfl) pa_nil))) pa_nil)))) pss_nil), ?_⟩
      intro D y w a p n way W Y H1 nwy w0 I ha la hwl hWl next
      obtain ⟨dx, vw, vt, hln, _⟩ := la
      refine ⟨_, rfl, p, C, dx, _, _, rfl, hln, TL.cl, TL.no _ (by simp [lineNames]), ln_form .., (by show 2 ≤ sizeLine; decide), fun q hq => ?_⟩
      have sq1 := same_upd (o := .tup [V.str "if", V.str "walk"]) hq
      refine ⟨q, _, rfl, .inr (SqT.of upd_same), rfl, by rfl, _, rfl, ?_⟩
      have I2 := I.same sq1
      have ha2 := sq1 _ _ ha
      have hl2 := sq1 _ _ hln
      generalize upd H1 q (.tup [V.str "if", V.str "walk"]) = H2 at *
      show if opensM (lineAt Ls n).form = true then _ else _
      cases c : opensM (lineAt Ls n).form with
      | false =>
        rw [c] at next
        exact iteF (next W H2 (by simp) I2)
      | true =>
        rw [c] at next
        refine iteT ⟨_, rfl, .inl ⟨rfl, _, SqL.of I2.hw⟩, _, rfl, _, rfl, (by show 1 ≤ sizeLine; decide), fun q1 h1 => ?_⟩
        have e1 := same_upd (o := .lst [V.int n]) h1
        refine ⟨a, q1, _, _, rfl, rfl, e1 _ _ ha2, upd_same, by rw [List.length_map, sizeLine_eq]; show way.length + 1 ≤ _; omega, fun q2 h2 => ?_⟩
        have e2 := e1.trans (same_upd (o := .lst (intL way ++ [V.int n])) h2)
        refine ⟨_, rfl, p, C, dx, _, _, rfl, e2 _ _ hl2, TL.cl, TL.no _ (by simp [lineNames]), ln_other .., (by show 2 ≤ sizeLine; decide), fun q3 h3 => ?_⟩
        have e3 := e2.trans (same_upd (o := .tup [V.ref q2, V.int (lineAt Ls n).oth]) h3)
        refine ⟨w, _, _, rfl, rfl, e3 _ _ I2.hw, by rw [List.length_map, sizeLine_eq]; omega, ?_⟩
        exact next _ _ (by rw [List.map_append]; rfl) (I2.step nwy w0 h1 h2 h3)
    obtain ⟨tD, pD, qD⟩ : ∃ tD, PSs (cxOf CX0 P w K mg base nAW "all_ways" (defScope s_all_ways) f cdv A outer s H E).nox ((whileB (nthS (defBody s_all_ways) 2)).drop 2) tD ∧
        ∀ (D : Ends) (y w a : Addr) (x5 : Option V) (n : Nat) (way : List Nat) (W : List Wt) (Y : List (Addr × List Nat)) (H1 : Hp), w ≠ y → H w = none → InvW H H1 w y W Y → H1 a = some (.lst (intL way)) → a ≠ w → 1 ≤ n → n ≤ Ls.length → way.length ≤ 200000 → W.length ≤ 100000 →
          (∀ W' H2 p, W'.map (fun x => (x.way, x.n)) = (W.map (fun x => (x.way, x.n)) ++ (if (lineAt Ls n).form = "walk" then [] else [(way ++ [n], (lineAt Ls n).thn)])) ++ (if opensM (lineAt Ls n).form = true then [(way ++ [n], (lineAt Ls n).oth)] else []) → InvW H H2 w y W' Y → D.nx [some (.ref t), some (.ref y), some (.ref w), some (.ref a), some (.int n), some (.ref p)] H2) →
          tD D [some (.ref t), some (.ref y), some (.ref w), some (.ref a), some (.int n), x5] H1 := by
      refine ⟨_, pss_cons (ps_set (i := 5) scWays.nd rfl (Or.inl rfl) (pe_ix ix_tup (pv 0) (pe_op op_sub (pv 4) pe_int) (fun _ _ => rfl)))
        (pss_cons (ps_if (pt_cmpR op_ne (pe_fld (pv 5) rfl) pe_str (nomark _)) (pss_one (ps_expr (pe_bm PySem.F.plainAttrs_list PySem.F.slot_list_append PySem.F.type_list_append mt_append (pv 2) (pa_cons (pe_tup (pa_cons (pe_op op_cat (pv 3) (pe_lst (pa_cons (pv 4) pa_nil))) (pa_cons (pe_fld (pv 5) rfl) pa_nil))) pa_nil)))) pss_nil) pE), ?_⟩
      intro D y w a x5 n way W Y H1 nwy w0 I ha haw hn1 hn2 hwl hWl next
      have ob1 := ob.same I.sm
      obtain ⟨p, hp, _, la⟩ := ob1.at_ hn1 hn2
      obtain ⟨dx, vw, vt, hln, dw, dt⟩ := id la
      have at1 : atI (ps.map V.ref) ((n : Int) - 1) = some (.ref p) := by
        rw [show (n : Int) - 1 = ((n - 1 : Nat) : Int) by omega]
        exact atI_nat (by rw [List.getElem?_map, hp]; rfl)
      refine ⟨_, rfl, _, rfl, _, _, rfl, rfl, t, _, _, .ref p, rfl, rfl, I.sm.sqT sq, at1, ?_⟩
      refine ⟨_, rfl, p, C, dx, _, _, rfl, hln, TL.cl, TL.no _ (by simp [lineNames]), ln_form .., rfl, _, rfl, ?_⟩
      by_cases c : (lineAt Ls n).form = "walk"
      · rw [if_pos c, List.append_nil] at next
        refine ifF (by rw [decide_eq_true (congrArg V.str c)]; rfl) ?_
        exact qE _ y w a p n way W Y H1 nwy w0 I ha la hwl (by omega) fun W' H2 e I' => next W' H2 p e I'
      · rw [if_neg c] at next
        refine ifT (by rw [decide_eq_false fun z => c (V.str.inj z)]; rfl) ⟨_, rfl, .inl ⟨rfl, _, SqL.of I.hw⟩, _, rfl, _, rfl, (by show 1 ≤ sizeLine; decide), fun q1 h1 => ?_⟩
        have e1 := same_upd (o := .lst [V.int n]) h1
        refine ⟨a, q1, _, _, rfl, rfl, e1 _ _ ha, upd_same, by rw [List.length_map, sizeLine_eq]; show way.length + 1 ≤ _; omega, fun q2 h2 => ?_⟩
        have e2 := e1.trans (same_upd (o := .lst (intL way ++ [V.int n])) h2)
        refine ⟨_, rfl, p, C, dx, _, _, rfl, e2 _ _ hln, TL.cl, TL.no _ (by simp [lineNames]), ln_then .., (by show 2 ≤ sizeLine; decide), fun q3 h3 => ?_⟩
        have e3 := e2.trans (same_upd (o := .tup [V.ref q2, V.int (lineAt Ls n).thn]) h3)
        refine ⟨w, _, _, rfl, rfl, e3 _ _ I.hw, by rw [List.length_map, sizeLine_eq]; omega, ?_⟩
        have I2 := I.step (way := way) (n := n) (m := (lineAt Ls n).thn) nwy w0 h1 h2 h3
        have npw : p ≠ w := ne_of hln I.hw (fun z => nomatch z)
        refine qE _ y w a p n way _ Y _ nwy w0 I2 ?_ (la.keep ?_ ?_) hwl (by rw [List.length_append]; show W.length + 1 ≤ _; omega) fun W' H2 e I' => next W' H2 p (by rw [e, List.map_append]; rfl) I'
        · rw [upd_ne haw]; exact e3 _ _ ha
        · exact (ExtT.of e3).trans (ExtT.lst (e3 _ _ I.hw))
        · rw [upd_ne npw, e3 _ _ hln, hln]
    refine ⟨_, pss_cons (ps_set (i := 1) scWays.nd rfl (Or.inl rfl) (pe_lst pa_nil))
      (pss_cons (ps_set (i := 2) scWays.nd rfl (Or.inl rfl) (pe_lst (pa_cons (pe_tup (pa_cons (pe_lst pa_nil) (pa_cons pe_int pa_nil))) pa_nil)))
      (pss_cons (ps_while PassesOwn.never (pt_cmpR op_gt (pe_callB call_len_seq (by rfl) T.len PySem.boot_len (pa_cons (pv 2) pa_nil)) pe_int (nomark _))
        (pss_cons (ps_asg (pe_bm0 PySem.F.plainAttrs_list PySem.F.slot_list_pop PySem.F.type_list_pop mt_pop (pv 2)) (pg_tup rfl (pgs_cons (pg_name (i := 3) scWays.nd rfl (Or.inl rfl)) (pgs_cons (pg_name (i := 4) scWays.nd rfl (Or.inl rfl)) pgs_nil))))
        (pss_cons (ps_if (pt_cmpR op_gt (pv 4) (pe_callB call_len_seq (by rfl) T.len PySem.boot_len (pa_cons (pv 0) pa_nil)) (nomark _)) (pss_cons (ps_expr (pe_bm PySem.F.plainAttrs_list PySem.F.slot_list_append PySem.F.type_list_append mt_append (pv 1) (pa_cons (pv 3) pa_nil))) (pss_one ps_continue)) pss_nil)
        pD)))
      (pss_one (ps_ret (pv 1))))), ?_⟩
    refine ⟨(by show 0 ≤ sizeLine; decide), fun y hy => ?_⟩
    have sy := same_upd (o := .lst []) hy
    refine ⟨(by show 0 ≤ sizeLine; decide), fun a0 ha0 => ?_⟩
    have sa := sy.trans (same_upd (o := .lst []) ha0)
    refine ⟨(by show 2 ≤ sizeLine; decide), fun t0 ht0 => ?_⟩
    have st := sa.trans (same_upd (o := .tup [V.ref a0, V.int 1]) ht0)
    refine ⟨(by show 1 ≤ sizeLine; decide), fun z hz => ?_⟩
    have s1 := same_upd (o := .tup [V.ref a0, V.int 1]) ht0
    have s2 := same_upd (o := .lst [V.ref t0]) hz
    have sz := st.trans s2
    have y0 : H y = none := hy
    have fz : ∀ b, H b = none ∨ True := fun _ => .inr trivial
    have z0 : H z = none := by
      cases e : H z with
      | none => rfl
      | some u => rw [st _ _ e] at hz; cases hz
    have a00 : H a0 = none := by
      cases e : H a0 with
      | none => rfl
      | some u => rw [sy _ _ e] at ha0; cases ha0
    have nyz : z ≠ y := by
      rintro rfl
      rw [(same_upd (o := .lst []) ha0 |>.trans s1) _ _ upd_same] at hz
      cases hz
    have Hy : upd (upd (upd (upd H y (.lst [])) a0 (.lst [])) t0 (.tup [V.ref a0, V.int 1])) z (.lst [V.ref t0]) y = some (.lst []) := (((same_upd (o := .lst []) ha0).trans s1).trans s2) _ _ upd_same
    have Ha : upd (upd (upd (upd H y (.lst [])) a0 (.lst [])) t0 (.tup [V.ref a0, V.int 1])) z (.lst [V.ref t0]) a0 = some (.lst []) := (s1.trans s2) _ _ upd_same
    have I0 : InvW H (upd (upd (upd (upd H y (.lst [])) a0 (.lst [])) t0 (.tup [V.ref a0, V.int 1])) z (.lst [V.ref t0])) z y [⟨t0, a0, [], 1⟩] [] := by
      refine ⟨sz, upd_same, Hy, fun x hx => ?_, fun q hq => absurd hq List.not_mem_nil, fun x hx => ?_, fun q hq => absurd hq List.not_mem_nil⟩
      rotate_left
      · rw [List.mem_singleton.mp hx]
        exact a00
      rw [List.mem_singleton.mp hx]
      refine ⟨s2 _ _ upd_same, Ha, ?_, ?_⟩
      · rintro rfl
        rw [s1 _ _ upd_same] at hz
        cases hz
      · rintro rfl
        rw [upd_same] at ha0
        cases ha0
    clear Hy Ha
    generalize upd (upd (upd (upd H y (.lst [])) a0 (.lst [])) t0 (.tup [V.ref a0, V.int 1])) z (.lst [V.ref t0]) = Hz at *
    clear s2 hz s1 st ha0 ht0
    refine ⟨fun m σ H' => ∃ (x3 x4 x5 : Option V) (W : List Wt) (Y : List (Addr × List Nat)), σ = [some (.ref t), some (.ref y), some (.ref z), x3, x4, x5] ∧ InvW H H' z y W Y ∧ waysM m Ls (W.map fun x => (x.way, x.n)) (Y.map (·.2)) = some ways ∧ (∀ q ∈ W.map fun x => (x.way, x.n), q.1.length + m ≤ 100000) ∧ W.length + m ≤ 100001 ∧ Y.length + m ≤ 100000, ⟨k, _, _, _, _, _, rfl, I0, hw, ?_, ?_, ?_⟩, ?_⟩
    · intro q hq
      rw [List.map_cons, List.map_nil, List.mem_singleton] at hq
      rw [hq]; show 0 + k ≤ _; omega
    · show 1 + k ≤ _; omega
    · show 0 + k ≤ _; omega
    rintro m σ H1 ⟨x3, x4, x5, W, Y, rfl, I, hm, b1, b2, b3⟩
    cases m with
    | zero => exact absurd hm (by simp [waysM])
    | succ m =>
      refine ⟨_, rfl, z, _, rfl, .inl (SqL.of I.hw), _, _, rfl, rfl, _, rfl, ?_⟩
      rw [List.length_map]
      rcases List.eq_nil_or_concat W with rfl | ⟨W', x, rfl⟩
      · refine ifF (by rfl) ?_
        have e : Y.map (·.2) = ways := Option.some.inj hm
        exact ⟨_, rfl, kk _ Y H1 y0 I.sm I.hy e fun q hq => ⟨(I.ey q hq).1, I.fy q hq⟩⟩
      · rw [List.concat_eq_append] at *
        have hx := I.ew x (List.mem_append_right _ (List.mem_singleton.mpr rfl))
        have I1 := I.pop nyz z0
        have hx1 : x.at_ (upd H1 z (.lst (W'.map fun x => V.ref x.t))) z y := hx.keep (fun b u h1 _ e => by rw [upd_ne h1]; exact e) ⟨_, I.hw⟩ ⟨_, I.hy⟩
        have hzl : H1 z = some (.lst ((W'.map fun x => V.ref x.t) ++ [V.ref x.t])) := by rw [I.hw, List.map_append]; rfl
        rw [List.map_append] at hm b1
        simp only [waysM, List.map_cons, List.map_nil, List.getLast?_concat, List.dropLast_concat] at hm
        refine ifT (decide_eq_true (by rw [List.length_append]; show (0 : Int) < ((W'.length + 1 : Nat) : Int); omega)) ⟨fun σ' H' => ∃ (x3 x4 x5 : Option V) (W : List Wt) (Y : List (Addr × List Nat)), σ' = [some (.ref t), some (.ref y), some (.ref z), x3, x4, x5] ∧ InvW H H' z y W Y ∧ waysM m Ls (W.map fun x => (x.way, x.n)) (Y.map (·.2)) = some ways ∧ (∀ q ∈ W.map fun x => (x.way, x.n), q.1.length + m ≤ 100000) ∧ W.length + m ≤ 100001 ∧ Y.length + m ≤ 100000, fun σ' H' ⟨x3, x4, x5, W, Y, q1, q2⟩ => ⟨m, Nat.lt_succ_self m, x3, x4, x5, W, Y, q1, q2⟩, ?_⟩
        have bl : W'.length + 1 + (m + 1) ≤ 100001 := by rw [List.length_append] at b2; exact b2
        have bx : x.way.length + (m + 1) ≤ 100000 := b1 _ (List.mem_append_right _ (List.mem_singleton.mpr rfl))
        refine ⟨_, rfl, .inl ⟨rfl, _, SqL.of hzl⟩, z, _, _, rfl, rfl, hzl, by rw [List.length_append]; exact List.getElem?_concat_length .., ?_⟩
        rw [List.dropLast_concat]
        refine ⟨x.t, _, rfl, SqT.of hx1.1, rfl, ?_⟩
        refine ⟨_, _, rfl, _, _, rfl, rfl, _, rfl, _, rfl, t, _, rfl, .inr (I1.sm.sqT sq), _, _, rfl, rfl, _, rfl, ?_⟩
        rw [List.length_map, pl]
        by_cases c : x.n > Ls.length
        · rw [if_pos c] at hm
          refine ifT (decide_eq_true (by show ((Ls.length : Nat) : Int) < (x.n : Int); omega)) ⟨_, rfl, .inl ⟨rfl, _, SqL.of I1.hy⟩, _, rfl, y, _, _, rfl, rfl, I1.hy, by rw [List.length_map, sizeLine_eq]; omega, ?_⟩
          refine ⟨_, _, _, W', Y ++ [(x.a, x.way)], rfl, I1.put (q := (x.a, x.way)) ⟨hx1.2.1, hx1.2.2.1, hx1.2.2.2⟩ (I.fw x (List.mem_append_right _ (List.mem_singleton.mpr rfl))) nyz y0, by rw [List.map_append]; exact hm, fun q hq => ?_, by omega, by rw [List.length_append]; show Y.length + 1 + m ≤ _; omega⟩
          have := b1 q (List.mem_append_left _ hq)
          omega
        · rw [if_neg c] at hm
          by_cases c0 : x.n = 0
          · rw [if_pos c0] at hm; cases hm
          rw [if_neg c0] at hm
          refine ifF (decide_eq_false (by show ¬ ((Ls.length : Nat) : Int) < (x.n : Int); omega)) ?_
          refine qD _ y z x.a _ x.n x.way W' Y _ nyz z0 I1 hx1.2.1 hx1.2.2.1 (by omega) (by omega) (by omega) (by omega) fun W2 H2 p e I2 => ?_
          refine ⟨_, _, _, W2, Y, rfl, I2, ?_, fun q hq => ?_, ?_, by omega⟩
          · rw [e]
            by_cases c1 : (lineAt Ls x.n).form = "walk" <;> by_cases c2 : opensM (lineAt Ls x.n).form = true
            all_goals simp only [c1, c2, if_true, if_false, Bool.false_eq_true, List.append_nil] at hm ⊢
            all_goals exact hm
          · rw [e] at hq
            rcases List.mem_append.mp hq with hq | hq
            · rcases List.mem_append.mp hq with hq | hq
              · have := b1 q (List.mem_append_left _ hq)
                omega
              · split at hq
                · exact absurd hq List.not_mem_nil
                · rw [List.mem_singleton.mp hq, List.length_append]
                  show x.way.length + 1 + m ≤ _
                  omega
            · split at hq
              · rw [List.mem_singleton.mp hq, List.length_append]
                show x.way.length + 1 + m ≤ _
                omega
              · exact absurd hq List.not_mem_nil
          · have e2 := congrArg List.length e
            rw [List.length_append, List.length_append, List.length_map, List.length_map] at e2
            have e3 : (if (lineAt Ls x.n).form = "walk" then [] else [(x.way ++ [x.n], (lineAt Ls x.n).thn)]).length ≤ 1 := by split <;> simp
            have e4 : (if opensM (lineAt Ls x.n).form = true then [(x.way ++ [x.n], (lineAt Ls x.n).oth)] else []).length ≤ 1 := by split <;> simp
            omega
end
end K40

/-! small sets of pairs (a number, a truth value) -/
namespace L2
open PySem PySem.Spec PyProof.Rows
abbrev QK := Nat × Bool
def kQ (q : QK) : List Leaf := [.num q.1, .num (if q.2 = true then 1 else 0)]
theorem kQ_inj {p q : QK} (e : kQ p = kQ q) : p = q := by
  obtain ⟨a, b⟩ := p
  obtain ⟨c, d⟩ := q
  unfold kQ at e
  injection e with e1 e2
  injection e1 with e1
  injection e2 with e2 _
  injection e2 with e2
  have h1 : a = c := by exact Int.ofNat.inj e1
  subst h1
  cases b <;> cases d <;> first | rfl | (simp at e2)
abbrev cQ (P : Program) (w : World) (q : QK) : Int := tupleKeyHash (leafKind P w) (kQ q)
abbrev IsQ (P : Program) (w : World) (h : Heap) (q : QK) (a : Addr) : Prop := IsTupleKey (leafKind P w) h (kQ q) a
section
variable {P : Program} {w : World} {A : Around} {E : Value → Shared → Prop} {s : Shared}
/-- a number or a truth value -/
def Plain2 (v : Value) : Prop := (∃ i t, v = .int i t) ∨ ∃ b, v = .bool b
theorem plain2_leaf {i : Int} {v : Value} (h : Leaf.isOf (.num i) v = true) : Plain2 v := by
  cases v with
  | int j t => exact .inl ⟨j, t, rfl⟩
  | bool b => exact .inr ⟨b, rfl⟩
  | _ => exact absurd h Bool.false_ne_true
theorem plain2_items {q : QK} {vs : List Value} (h : ItemsAre (leafKind P w) (kQ q) vs) : ∀ v ∈ vs, Plain2 v := by
  unfold kQ at h
  cases h with
  | cons h1 t1 =>
    cases t1 with
    | cons h2 t2 =>
      cases t2
      intro v hv
      rcases List.mem_cons.mp hv with rfl | hv
      · exact plain2_leaf h1
      · rw [List.mem_singleton.mp hv]
        exact plain2_leaf h2
theorem noClass2 {n : Nat} {v : Value} (h : Plain2 v) : ofAClassStatement n v = pure false := by
  rcases h with ⟨i, t, rfl⟩ | ⟨b, rfl⟩ <;> cases n <;> rfl
theorem byVal2 {n : Nat} {v : Value} (h : Plain2 v) : hashByValue n v = pure true := by
  rcases h with ⟨i, t, rfl⟩ | ⟨b, rfl⟩ <;> cases n <;> rfl
theorem noClassQ {q : QK} {b : Addr} {Q : Bool → Shared → Prop} (hk : IsQ P w s.heap q b) (yes : Q false s) : wpAny (model P w) A (ofAClassStatement 8 (.ref b)) Q E s := by
  have ty := hk.typeIs
  obtain ⟨o, its, n, ho, _, hd, hi⟩ := hk
  have pl := plain2_items hi
  unfold ofAClassStatement
  refine wpAny_bind (wpAny_typeOf ty ?_)
  dsimp only
  have tt : (("tuple" : String) == "tuple") = true := by decide
  simp only [tt, Bool.not_true, if_true, if_false, Bool.false_eq_true]
  try refine wpAny_bind (wpAny_pure ?_)
  try simp only [Bool.not_true, if_false, Bool.false_eq_true]
  show wpAny (model P w) A (seqItems? (.ref b) >>= _) Q E s
  refine wpAny_bind (wpAny_seqItems ho hd ?_)
  dsimp only
  refine wpAny_bind ?_
  show wpAny (model P w) A (forIn its _ _) _ E s
  rw [← Array.forIn_toList]
  refine wpAny_forIn_list _ (fun left acc z => acc.1 = none ∧ z = s ∧ ∀ v ∈ left, Plain2 v) _ ?_ ?_ _ _ ⟨rfl, rfl, pl⟩
  · rintro v left acc z ⟨ha, rfl, all⟩
    rw [noClass2 (all v List.mem_cons_self)]
    refine wpAny_bind (wpAny_pure ?_)
    simp only [if_false, Bool.false_eq_true]
    exact wpAny_pure ⟨rfl, rfl, fun u hu => all u (List.mem_cons_of_mem _ hu)⟩
  · rintro ⟨x1, x2⟩ z ⟨ha, rfl, _⟩
    simp only at ha
    subst ha
    exact wpAny_pure yes
theorem byValQ {q : QK} {b : Addr} {Q : Bool → Shared → Prop} (hk : IsQ P w s.heap q b) (yes : Q true s) : wpAny (model P w) A (hashByValue 8 (.ref b)) Q E s := by
  have ty := hk.typeIs
  obtain ⟨o, its, n, ho, _, hd, hi⟩ := hk
  have pl := plain2_items hi
  unfold hashByValue
  refine wpAny_bind (wpAny_specialOf ty F.slot_tuple_hash.lookup ?_)
  show wpAny (model P w) A (seqItems? (.ref b) >>= _) Q E s
  refine wpAny_bind (wpAny_seqItems ho hd ?_)
  refine wpAny_bind ?_
  show wpAny (model P w) A (forIn its _ _) _ E s
  rw [← Array.forIn_toList]
  refine wpAny_forIn_list _ (fun left acc z => acc.1 = none ∧ z = s ∧ ∀ v ∈ left, Plain2 v) _ ?_ ?_ _ _ ⟨rfl, rfl, pl⟩
  · rintro v left acc z ⟨ha, rfl, all⟩
    rw [byVal2 (all v List.mem_cons_self)]
    refine wpAny_bind (wpAny_pure ?_)
    simp only [Bool.not_true, if_false, Bool.false_eq_true]
    exact wpAny_pure ⟨rfl, rfl, fun u hu => all u (List.mem_cons_of_mem _ hu)⟩
  · rintro ⟨x1, x2⟩ z ⟨ha, rfl, _⟩
    simp only at ha
    subst ha
    exact wpAny_pure yes
theorem unseenQ {q : QK} {b : Addr} {Q : Bool → Shared → Prop} (hk : IsQ P w s.heap q b) {ys : List Value} (hy : ∀ y ∈ ys, ∃ r c, y = Value.ref c ∧ IsQ P w s.heap r c) (yes : Q false s) :
    wpAny (model P w) A (searchCouldBeSeen (.ref b) ys) Q E s := by
  unfold searchCouldBeSeen
  refine wpAny_bind ?_
  refine wpAny_forIn_list _ (fun left acc z => acc.1 = none ∧ z = s ∧ ∀ y ∈ left, ∃ r c, y = Value.ref c ∧ IsQ P w s.heap r c) _ ?_ ?_ _ _ ⟨rfl, rfl, hy⟩
  · rintro v left acc z ⟨ha, rfl, all⟩
    obtain ⟨r, c, rfl, hc⟩ := all v List.mem_cons_self
    have more : ∀ y ∈ left, ∃ r c, y = Value.ref c ∧ IsQ P w z.heap r c := fun u hu => all u (List.mem_cons_of_mem _ hu)
    dsimp only
    by_cases same : (b == c || (carriedByValue (.ref b) && carriedByValue (.ref c))) = true
    · exact wp_if_pos same (wpAny_pure ⟨rfl, rfl, more⟩)
    · refine wp_if_neg same (wpAny_bind (wpAny_eqIsQuiet_tuple hk ?_))
      simp only [Bool.not_true, if_false, Bool.false_eq_true]
      refine wpAny_bind (wpAny_eqIsQuiet_tuple hc ?_)
      simp only [Bool.not_true, if_false, Bool.false_eq_true]
      refine wpAny_bind (noClassQ hk ?_)
      simp only [if_false, Bool.false_eq_true]
      refine wpAny_bind (noClassQ hc ?_)
      simp only [if_false, Bool.false_eq_true]
      exact wpAny_pure ⟨rfl, rfl, more⟩
  · rintro ⟨x1, x2⟩ z ⟨ha, rfl, _⟩
    simp only at ha
    subst ha
    exact wpAny_pure yes
end
end L2

namespace L2
open PySem PySem.Spec PyProof.Rows
section
variable (c0 : QK → Int) (w : World)
def rowsQ (L : List (Addr × QK)) : List (Int × Value) := L.map fun p => (c0 p.2, Value.ref p.1)
def hashesQ (L : List (Addr × QK)) : List Int := L.map fun p => c0 p.2
/-- the table of a small set of pairs, without the pairs themselves -/
structure TabQ (h : Heap) (a : Addr) (L : List (Addr × QK)) (es : Array (Int × Value)) (ep : Nat) (t : SetTable) : Prop where
  ob : ∃ o, h.get? a = some o ∧ o.ExactSet ∧ o.data = .set es ep t
  rows : es.toList = rowsQ c0 L
  tab : TabOk t (hashesQ c0 L)
  plain : t.plain = true
  led : w.params.followText "set-order" = true ∨ t.led = true
  m7 : t.mask = 7
  few : L.length ≤ 4
end
section
variable {P : Program} {c0 : QK → Int} {w : World} {A : Around} {E : Value → Shared → Prop} {s : Shared} {a : Addr} {L : List (Addr × QK)} {es : Array (Int × Value)} {ep : Nat} {t : SetTable}
theorem TabQ.size {h : Heap} (T : TabQ c0 w h a L es ep t) : es.size = L.length := by
  have e := congrArg List.length T.rows
  rwa [Array.length_toList, rowsQ, List.length_map] at e
theorem TabQ.places {h : Heap} (T : TabQ c0 w h a L es ep t) : t.place.size = L.length := by
  have e := T.tab.sz
  rwa [hashesQ, List.length_map] at e
theorem TabQ.fits {h : Heap} (T : TabQ c0 w h a L es ep t) : t.fits es.size = true := by
  have e1 := T.places
  have e2 := T.size
  have e3 := T.m7
  have e4 := T.few
  unfold SetTable.fits SetTable.fill
  rw [T.tab.dm, Bool.and_eq_true, beq_iff_eq, decide_eq_true_eq]
  exact ⟨e1.trans e2.symm, by show t.place.size + 0 ≤ t.mask; omega⟩
theorem TabQ.entry {h : Heap} (T : TabQ c0 w h a L es ep t) {i : Nat} {p : Addr × QK} (hp : L[i]? = some p) : es[i]? = some (c0 p.2, Value.ref p.1) := by
  rw [← Array.getElem?_toList, T.rows, rowsQ, List.getElem?_map, hp]
  rfl
theorem TabQ.nogw {h : Heap} (T : TabQ c0 w h a L es ep t) : ¬ t.gaveWay = true := by
  unfold SetTable.gaveWay
  rw [T.m7]
  decide
abbrev startQ (m : Nat) (h : Int) : SetTable.Probe := runAt m (SetTable.bits h % (m + 1)) (SetTable.bits h)
theorem probe_is (t : SetTable) (f : Nat → Int) (h : Int) (p : SetTable.Probe) : t.probe f h p = SetTable.probe.go t f h (10 * SetTable.turns t.mask) p := by
  unfold SetTable.probe
  rfl
/-- a search, where no other pair has the same hash -/
theorem searchQ (T : TabQ c0 w s.heap a L es ep t) (tup : ∀ p ∈ L, IsQ P w s.heap p.2 p.1) {x : Addr} {q : QK} (hx : IsQ P w s.heap q x) (inj : ∀ p ∈ L, c0 p.2 = c0 q → p.2 = q) (hu : A.units < cLine) {adding : Bool} {Q : SetFound → Shared → Prop}
    (yes : q ∈ L.map (·.2) → ∀ r : Option Nat, (adding = false → r.isSome = true) → Q (.there r) s)
    (no : ∀ K, q ∉ L.map (·.2) → way t.mask (c0 q) K ∉ t.place.toList → (∀ c, c < K → way t.mask (c0 q) c ∈ t.place.toList) → Q (.free (way t.mask (c0 q) K) false) s) :
    ∀ f, wpAny (model P w) A (setSearchFrom a (.ref x) (c0 q) adding (f + 1) none) Q E s := by
  intro f
  obtain ⟨o, ho, hex, hd⟩ := T.ob
  have hl : (hashesQ c0 L).length ≤ t.mask := by
    have := T.few
    have := T.m7
    rw [hashesQ, List.length_map]
    omega
  obtain ⟨K, hK0, hK, hKb⟩ := T.tab.first hl (c0 q)
  rw [setSearchFrom_succ]
  refine wpAny_bind (wpAny_setState_of ho hd T.fits ?_)
  dsimp only
  refine wp_if_neg T.nogw ?_
  try refine wpAny_bind (wpAny_pure ?_)
  have hashAt : ∀ (i : Nat) p, L[i]? = some p → (es[i]?.map (·.1)).getD 0 = c0 p.2 := fun i p hp => by
    rw [T.entry hp]
    rfl
  have spec := go_spec t T.tab.ris T.tab.dm (fun i => (es[i]?.map (·.1)).getD 0) (c0 q) (10 * SetTable.turns t.mask) K (startQ t.mask (c0 q)) rfl hK0 (fun c hc => hKb c hc) hK
  rw [probe_is, Option.getD_none, start_run]
  rcases spec with ⟨c, i, hc, hi, hh, _, met⟩ | ⟨hno, met⟩
  · rw [met]
    dsimp only
    have il : i < L.length := by
      have h1 : i < t.place.toList.length := (List.getElem?_eq_some_iff.mp hi).1
      rwa [Array.length_toList, T.places] at h1
    obtain ⟨p, hp⟩ : ∃ p, L[i]? = some p := ⟨_, List.getElem?_eq_getElem il⟩
    have pm : p ∈ L := List.mem_of_getElem? hp
    have pq : p.2 = q := inj p pm ((hashAt i p hp).symm.trans hh)
    have tail : ∀ j nx, t.slot j = .live i → wpAny (model P w) A (searchRest a (.ref x) (c0 q) adding f es t j i nx) Q E s := fun j nx hj => by
      unfold searchRest
      rw [T.entry hp]
      dsimp only
      refine wpAny_bind (wpAny_holding (wpAny_eqBool_tuple hu (tup p pm) hx ?_))
      refine wpAny_bind (wpAny_setState_of ho hd T.fits ?_)
      dsimp only
      have dk : decide (kQ p.2 = kQ q) = true := decide_eq_true (congrArg kQ pq)
      rw [dk]
      cases adding with
      | true => exact wp_if_pos (by decide) (wpAny_pure (yes (List.mem_map.mpr ⟨p, pm, pq⟩) none fun z => nomatch z))
      | false =>
        refine wp_if_neg (by decide) ?_
        try refine wpAny_bind (wpAny_pure ?_)
        rw [sameMem]
        dsimp only
        simp only [if_true, hj, T.entry hp]
        refine wpAny_bind (wpAny_isSame_ref_self (wpAny_bind (wpAny_pure ?_)))
        simp only [if_true]
        exact wpAny_pure (yes (List.mem_map.mpr ⟨p, pm, pq⟩) (some i) fun _ => rfl)
    have sl := slot_live T.tab.ris hi
    by_cases ld : t.led = true
    · refine wp_if_neg (by rw [ld]; decide) ?_
      try refine wpAny_bind (wpAny_pure ?_)
      exact tail _ _ sl
    · refine wp_if_pos (by simp [ld]) (wpAny_bind (unseenQ hx (fun y hy => ?_) (wp_if_neg (by decide) ?_)))
      · obtain ⟨e, he, rfl⟩ := List.mem_map.mp hy
        have he1 : e ∈ es ∧ e.1 = c0 q := by simpa using he
        have he2 : e ∈ es.toList := by simpa using he1.1
        rw [T.rows, rowsQ] at he2
        obtain ⟨p2, hp2, rfl⟩ := List.mem_map.mp he2
        exact ⟨p2.2, p2.1, rfl, tup p2 hp2⟩
      · try refine wpAny_bind (wpAny_pure ?_)
        exact tail _ _ sl
  · rw [met]
    dsimp only
    refine wpAny_pure (no K (fun hm => ?_) hK hKb)
    obtain ⟨p, pm, pq⟩ := List.mem_map.mp hm
    obtain ⟨i, hi, e⟩ := List.getElem_of_mem pm
    have hp : L[i]? = some p := by rw [List.getElem?_eq_getElem hi, e]
    have hz : (hashesQ c0 L)[i]? = some (c0 q) := by
      rw [hashesQ, List.getElem?_map, hp, ← pq]
      rfl
    have hil : i < t.place.toList.length := by rw [Array.length_toList, T.places]; exact hi
    obtain ⟨c, hc, e2⟩ := T.tab.before hK hz (List.getElem?_eq_getElem hil)
    refine hno c i hc ?_ ((hashAt i p hp).trans (by rw [pq]))
    rw [List.getElem?_eq_getElem hil, ← e2]
end
end L2

namespace L2
open PySem PySem.Spec PyProof.Rows
section
variable {P : Program} {c0 : QK → Int} {w : World} {A : Around} {E : Value → Shared → Prop} {s : Shared} {a : Addr} {L : List (Addr × QK)} {es : Array (Int × Value)} {ep : Nat} {t : SetTable}
/-- looking for a pair -/
theorem findQ (T : TabQ c0 w s.heap a L es ep t) (tup : ∀ p ∈ L, IsQ P w s.heap p.2 p.1) {x : Addr} {q : QK} (hx : IsQ P w s.heap q x) (inj : ∀ p ∈ L, c0 p.2 = c0 q → p.2 = q) (hu : A.units < cLine) {Q : Option Nat → Shared → Prop}
    (yes : ∀ r : Option Nat, r.isSome = decide (q ∈ L.map (·.2)) → Q r s) : wpAny (model P w) A (setFind a (.ref x) (c0 q)) Q E s := by
  obtain ⟨o, ho, hex, hd⟩ := T.ob
  unfold setFind
  rw [show (100000 : Nat) = 99999 + 1 from rfl]
  unfold setFindIn
  refine wpAny_bind (wpAny_setState_of ho hd T.fits ?_)
  dsimp only
  refine wp_if_neg (by simp [byScan, Value.scannable]) ?_
  try refine wpAny_bind (wpAny_pure ?_)
  refine wpAny_bind (searchQ T tup hx inj hu (adding := false) (fun hm r hr => ?_) (fun K hm _ _ => ?_) 99999)
  · exact wpAny_pure (yes r (by rw [hr rfl, decide_eq_true hm]))
  · exact wpAny_pure (yes none (by rw [decide_eq_false hm]; rfl))
theorem pair_same {h h' : Heap} {q : QK} {a b : Addr} {o : Obj} {es : Array (Int × Value)} {ep : Nat} {t : SetTable} (hb : IsQ P w h q b) (ho : h.get? a = some o) (hd : o.data = .set es ep t) (sb : Heap.SameBut a h h') : IsQ P w h' q b := by
  obtain ⟨o2, its, n, h2, hc, hd2, hi⟩ := hb
  refine ⟨o2, its, n, (sb.2 b ?_).trans h2, hc, hd2, hi⟩
  rintro rfl
  rw [Option.some.inj (ho.symm.trans h2), hd2] at hd
  cases hd
theorem rowsQ_put (p : Nat) (x : Addr) (q : QK) : rowsQ c0 (L.take p ++ (x, q) :: L.drop p) = (rowsQ c0 L).take p ++ (c0 q, Value.ref x) :: (rowsQ c0 L).drop p := by
  rw [rowsQ, rowsQ, List.map_append, List.map_take, List.map_cons, List.map_drop]
theorem hashesQ_put (p : Nat) (x : Addr) (q : QK) : hashesQ c0 (L.take p ++ (x, q) :: L.drop p) = (hashesQ c0 L).take p ++ c0 q :: (hashesQ c0 L).drop p := by
  rw [hashesQ, hashesQ, List.map_append, List.map_take, List.map_cons, List.map_drop]
/-- adding a pair to at most three -/
theorem addQ (T : TabQ c0 w s.heap a L es ep t) (tup : ∀ p ∈ L, IsQ P w s.heap p.2 p.1) {x : Addr} {q : QK} (hx : IsQ P w s.heap q x) (inj : ∀ p ∈ L, c0 p.2 = c0 q → p.2 = q) (hu : A.units < cLine) (few : L.length + 1 ≤ 4) {Q : Bool → Shared → Prop}
    (old : q ∈ L.map (·.2) → Q false s) (new : ∀ h' L' es' ep' t', Heap.SameBut a s.heap h' → TabQ c0 w h' a L' es' ep' t' → L'.Perm ((x, q) :: L) → Q true { s with heap := h' }) :
    wpAny (model P w) A (setAddHashed a (.ref x) (c0 q)) Q E s := by
  obtain ⟨o, ho, hex, hd⟩ := T.ob
  unfold setAddHashed
  refine wpAny_holding ?_
  rw [show (100000 : Nat) = 99999 + 1 from rfl, setAddHashedIn_succ]
  refine wpAny_bind (wpAny_setState_of ho hd T.fits ?_)
  dsimp only
  refine wp_if_neg (by simp [byScan, Value.scannable]) ?_
  try refine wpAny_bind (wpAny_pure ?_)
  unfold setSearch
  refine wpAny_bind (searchQ T tup hx inj hu (adding := true) (fun hm r _ => ?_) (fun K hm hK hKb => ?_) 99999)
  · dsimp only
    exact wpAny_pure (old hm)
  · dsimp only
    refine wpAny_bind (wpAny_setState_of ho hd T.fits ?_)
    dsimp only
    obtain ⟨q1, q2, q3, q4, q5, q6, q7, q8, q9⟩ := T.tab.put hK hKb
    generalize hj : way t.mask (c0 q) K = j at q1 q2 q3 q4 q5 q6 q7 q8 q9 ⊢
    have p1 : (t.put j).1.plain = true := q6.trans T.plain
    have m1 : (t.put j).1.mask = 7 := q4.trans T.m7
    have l1 : w.params.followText "set-order" = true ∨ (t.put j).1.led = true := by rw [q5]; exact T.led
    have f1 : (t.put j).1.fill = L.length + 1 := by rw [q9, hashesQ, List.length_map]
    generalize t.put j = tp at q1 q3 p1 m1 l1 f1 ⊢
    obtain ⟨t1, p⟩ := tp
    dsimp only at q1 q3 p1 m1 l1 f1 ⊢
    subst q1
    generalize SetTable.below t.place j = p at q2 q3 ⊢
    first
      | (refine wpAny_bind ?_; refine wp_if_pos p1 ?_; refine byValQ hx ?_)
      | refine wp_if_pos p1 (wpAny_bind (byValQ hx ?_))
    simp only [if_true]
    have e1 : (SetTable.insertAt es p (c0 q, Value.ref x)).toList = rowsQ c0 (L.take p ++ (x, q) :: L.drop p) := by
      rw [SetTable.toList_insertAt, rowsQ_put, T.rows]
    rw [← hashesQ_put (x := x)] at q3
    have pm := put_perm L p (x, q)
    have z1 : (SetTable.insertAt es p (c0 q, Value.ref x)).size = L.length + 1 := by
      have e := congrArg List.length e1
      rw [Array.length_toList, rowsQ, List.length_map, pm.length_eq] at e
      exact e
    generalize SetTable.insertAt es p (c0 q, Value.ref x) = es1 at e1 z1 ⊢
    generalize L.take p ++ (x, q) :: L.drop p = L1 at pm q3 e1
    have n1 : L1.length = L.length + 1 := pm.length_eq
    refine wpAny_bind (wpAny_storeSet_of ho hd ?_ (by rw [z1, sizeLine_eq]; omega))
    have sb : Heap.SameBut a s.heap (s.heap.update a (Obj.putSet es1 t1)) := Heap.SameBut.update ..
    have ho1 := store_at (es' := es1) (t' := t1) ho hd
    generalize s.heap.update a (Obj.putSet es1 t1) = h1 at sb ho1 ⊢
    have nf : ¬ t1.tooFull = true := by
      unfold SetTable.tooFull
      rw [f1, m1, decide_eq_true_eq]
      omega
    have end1 := new h1 L1 es1 (ep + 1) t1 sb ⟨⟨_, ho1, ⟨hex.1, hex.2.1, hex.2.2⟩, rfl⟩, e1, q3, p1, l1, m1, by omega⟩ pm
    first
      | exact wp_if_neg (by simp [nf]) (wpAny_pure end1)
      | (refine wpAny_bind ?_; exact wp_if_neg (by simp [nf]) (wpAny_pure (wpAny_pure end1)))
theorem tabQ_new {h : Heap} {a : Addr} (ho : h.get? a = some { cls := .type "set", dict := none, data := .set #[] 0 (.fresh 0 0 (!w.params.followText "set-order")) }) : TabQ c0 w h a [] #[] 0 (.fresh 0 0 (!w.params.followText "set-order")) := by
  refine ⟨⟨_, ho, ⟨rfl, rfl, rfl⟩, rfl⟩, rfl, ⟨List.Pairwise.nil, rfl, rfl, .inl rfl, fun x hx => (by cases hx), fun i h j hi => (by simp [hashesQ] at hi)⟩, rfl, ?_, rfl, Nat.zero_le _⟩
  show _ ∨ (!w.params.followText "set-order") = true
  cases w.params.followText "set-order"
  · exact .inr rfl
  · exact .inl rfl
theorem TabQ.keep {h h' : Heap} (T : TabQ c0 w h a L es ep t) (k : ∀ o, h.get? a = some o → h'.get? a = some o) : TabQ c0 w h' a L es ep t := by
  obtain ⟨o, ho, r⟩ := T.ob
  exact ⟨⟨o, k o ho, r⟩, T.rows, T.tab, T.plain, T.led, T.m7, T.few⟩
end
end L2

namespace L2
open PySem PySem.Spec PyProof.Rows
def gQ (n : Nat) (b : Bool) : Int := reduceHash (Builtin.Tuple.tupleHashOf [hashInt n, hashInt (if b = true then 1 else 0)])
theorem gQ_inj : ∀ m, m < 10 → ∀ n, n < 10 → ∀ b c, gQ m b = gQ n c → m = n ∧ b = c := by decide +kernel
def cHash (P : Program) (w : World) : QK → Int := fun q => tupleKeyHash (leafKind P w) (kQ q)
theorem cHash_def (P : Program) (w : World) (q : QK) : tupleKeyHash (leafKind P w) (kQ q) = cHash P w q := rfl
theorem cHash_eq (P : Program) (w : World) (n : Nat) (b : Bool) : cHash P w (n, b) = gQ n b := by
  unfold cHash tupleKeyHash gQ kQ
  rfl
theorem cHash_inj {P : Program} {w : World} {p q : QK} (hp : p.1 < 10) (hq : q.1 < 10) (e : cHash P w p = cHash P w q) : p = q := by
  obtain ⟨m, b⟩ := p
  obtain ⟨n, c⟩ := q
  rw [cHash_eq, cHash_eq] at e
  obtain ⟨rfl, rfl⟩ := gQ_inj m hp n hq b c e
  rfl
/-- the set of pairs at a -/
def SetQ (P : Program) (w : World) (a : Addr) (L : List (Addr × QK)) : HO := .ext fun h => ∃ es ep t, TabQ (cHash P w) w h a L es ep t
theorem setQ_new {P : Program} {w : World} {H : Hp} {h : Heap} {a : Addr} {L : List (Addr × QK)} {es : Array (Int × Value)} {ep : Nat} {t : SetTable} (T : TabQ (cHash P w) w h a L es ep t) : ObjOk P w H h a (SetQ P w a L) := by
  have ⟨o, ho, _⟩ := T.ob
  exact ⟨⟨_, _, _, T⟩, ⟨o, ho⟩, fun h1 h2 ⟨es, ep, t, T1⟩ k => ⟨es, ep, t, T1.keep k⟩⟩
def qV (q : QK) : List V := [.int q.1, .bl q.2]
section
variable {X : Cx}
theorem setQ_get {pins : List (Addr × Obj)} {σ : L2.St} {H : Hp} {s : Shared} {a : Addr} {L : List (Addr × QK)} (I : Inv X pins σ H s) (ha : H a = some (SetQ X.prog X.w a L)) : ∃ es ep t, TabQ (cHash X.prog X.w) X.w s.heap a L es ep t := (I.hok a _ ha).1
theorem Inv.isQ {pins : List (Addr × Obj)} {σ : L2.St} {H : Hp} {s : Shared} {b : Addr} {q : QK} (I : Inv X pins σ H s) (h : SqT X.K H b (qV q)) : IsQ X.prog X.w s.heap q b := by
  obtain ⟨its, r, ⟨o, ho, hc, n, hd⟩, _⟩ := I.tuple h
  refine ⟨o, its.toArray, n, ho, hc, hd, ?_⟩
  cases r with
  | cons r1 t1 =>
    cases t1 with
    | cons r2 t2 =>
      cases t2
      obtain ⟨tk, rfl⟩ := r1
      cases r2
      refine .cons ?_ (.cons ?_ .nil)
      · exact decide_eq_true rfl
      · exact decide_eq_true rfl
/-- set() -/
def rSet0Q (P : Program) (w : World) : List V → Hp → VK → Prop := fun xs H Q => xs = [] ∧ ∀ p, H p = none → Q (.ref p) (upd H p (SetQ P w p []))
theorem cr_set0Q : CallR X (.type "set") (rSet0Q X.prog X.w) := by
  intro pins s σ H xs us Q I r h
  obtain ⟨rfl, yes⟩ := h
  cases r
  refine setR_new fun _ => ?_
  have T := tabQ_new (c0 := cHash X.prog X.w) (w := X.w) (a := s.heap.objs.size) (h := s.heap.push { cls := .type "set", dict := none, data := .set #[] 0 (.fresh 0 0 (!X.w.params.followText "set-order")) }) (Heap.get?_push_size _ rfl)
  exact ⟨.ref _, upd H s.heap.objs.size (SetQ X.prog X.w s.heap.objs.size []), I.laid (t' := s.toks) (fun b u e => Heap.get?_push_of_some _ e) (Nat.le_refl _) (setQ_new T), rfl, yes _ (I.hok.fresh (Nat.le_refl _))⟩
/-- the pair at p, the set at a -/
def QIn (K : PySem.W.Frag) (P : Program) (w : World) (x y : V) (H : Hp) (p a : Addr) (q : QK) (L : List (Addr × QK)) : Prop := x = .ref p ∧ y = .ref a ∧ SqT K H p (qV q) ∧ H a = some (SetQ P w a L) ∧ (∀ r ∈ L, SqT K H r.1 (qV r.2)) ∧ q.1 < 10 ∧ ∀ r ∈ L, r.2.1 < 10
/-- p in found -/
def rInQ (K : PySem.W.Frag) (P : Program) (w : World) : R2 := fun x y H Q => ∃ p a q L, QIn K P w x y H p a q L ∧ Q (.bl (decide (q ∈ L.map (·.2)))) H
theorem op_inQ (hu : X.A.units + 65 < cLine) : OpR X (compareOp .In) (rInQ X.K X.prog X.w) := by
  intro pins s σ H x y v u Q I rx ry h
  obtain ⟨p, a, q, L, ⟨rfl, rfl, sp, ha, sl, b1, b2⟩, yes⟩ := h
  cases rx
  cases ry
  obtain ⟨es, ep, t, T⟩ := setQ_get I ha
  obtain ⟨o, ho, hex, hd⟩ := T.ob
  have ty : s.TypeIs (.ref a) "set" := ⟨o, ho, hex.1⟩
  have kp := I.isQ sp
  show wpAny _ _ (do return Value.bool (← contains (Value.ref a) (Value.ref p))) _ _ s
  refine wpAny_bind ?_
  unfold contains
  try with_reducible refine wpAny_holding ?_
  refine wpAny_bind (wpAny_specialOf ty F.slot_set_contains.lookup ?_)
  refine wp_if_neg (by rw [beq_builtin_none]; exact Bool.false_ne_true) ?_
  refine wpAny_bind (wpAny_callSpecialUnlessNone?_slot (name := Str.ofString "__contains__") ty F.slot_set_contains
    (wpAny_call_entry F.slot_set_contains ty entry_set_contains ?_ (F.args_set_contains_2 _ _)))
  unfold Builtin.«frozenset.__contains__» Builtin.Frozenset.oneOther
  simp only [bind_assoc, List.isEmpty_nil]
  unfold Builtin.Frozenset.addrOf Builtin.Frozenset.withSetAsKey setContains
  refine wpAny_bind (wpAny_pure ?_)
  try dsimp only
  refine wpAny_bind (wpAny_pure ?_)
  try dsimp only
  refine wpAny_bind (wpAny_tryCatch ?_)
  refine wpAny_holding ?_
  refine wpAny_bind (wpAny_pyHash_tuple (Nat.lt_of_le_of_lt (Nat.add_le_add_left (by decide : 1 ≤ 65) _) hu) kp ?_)
  have tup : ∀ r ∈ L, IsQ X.prog X.w s.heap r.2 r.1 := fun r hr => I.isQ (sl r hr)
  rw [cHash_def]
  refine wpAny_bind (findQ (s := { s with toks := s.toks + ((kQ q).length + 1) }) (c0 := cHash X.prog X.w) T tup kp (fun r hr e => cHash_inj (b2 r hr) b1 e) (Nat.lt_of_le_of_lt (Nat.add_le_add_left (by decide : 1 ≤ 65) _) hu) fun r hr => ?_)
  refine wpAny_pure ?_
  show wpAny _ _ (ret (Value.bool r.isSome)) _ _ _
  rw [hr]
  exact wpAny_pure ⟨_, rfl, wpAny_truthy_bool (wpAny_pure ⟨.bl (decide (q ∈ L.map (fun x : Addr × QK => x.2))), H, I.tok _, rfl, yes⟩)⟩
/-- found.add(p) -/
def rAddQ (K : PySem.W.Frag) (P : Program) (w : World) : V → List V → Hp → VK → Prop := fun y xs H Q => ∃ x p a q L, xs = [x] ∧ QIn K P w x y H p a q L ∧ q ∉ L.map (·.2) ∧ L.length + 1 ≤ 4 ∧ ∀ L', L'.Perm ((p, q) :: L) → Q .non (upd H a (SetQ P w a L'))
theorem mt_addQ (hu : X.A.units + 65 < cLine) : MtR X "set.add" (rAddQ X.K X.prog X.w) := by
  intro pins s σ H y xs v us Q I ry rxs h
  obtain ⟨x, p, a, q, L, rfl, ⟨rfl, rfl, sp, ha, sl, b1, b2⟩, nw, few, yes⟩ := h
  cases ry
  cases rxs with
  | cons rx rt =>
    cases rt
    cases rx
    obtain ⟨es, ep, t, T⟩ := setQ_get I ha
    obtain ⟨o, ho, hex, hd⟩ := T.ob
    have ty : s.TypeIs (.ref a) "set" := ⟨o, ho, hex.1⟩
    have kp := I.isQ sp
    have tup : ∀ r ∈ L, IsQ X.prog X.w s.heap r.2 r.1 := fun r hr => I.isQ (sl r hr)
    refine wpAny_call_entry F.slot_set_add ty F.entry_set_add ?_ (F.args_set_add_2 _ _)
    unfold Builtin.«set.add» Builtin.Frozenset.oneOther
    simp only [bind_assoc, List.isEmpty_nil]
    unfold Builtin.Frozenset.addrOf setAdd
    refine wpAny_bind (wpAny_pure ?_)
    try dsimp only
    refine wpAny_bind (wpAny_pure ?_)
    try dsimp only
    refine wpAny_bind ?_
    refine wpAny_holding ?_
    refine wpAny_bind (wpAny_pyHash_tuple (Nat.lt_of_le_of_lt (Nat.add_le_add_left (by decide : 1 ≤ 65) _) hu) kp ?_)
    rw [cHash_def]
    refine addQ (s := { s with toks := s.toks + ((kQ q).length + 1) }) (c0 := cHash X.prog X.w) T tup kp (fun r hr e => cHash_inj (b2 r hr) b1 e) (Nat.lt_of_le_of_lt (Nat.add_le_add_left (by decide : 1 ≤ 65) _) hu) few (fun z => absurd z nw) fun h' L' es' ep' t' sb T' pm => ?_
    show wpAny _ _ (ret Value.none) _ _ _
    have he : ∃ u, h'.get? a = some u := let ⟨o, z, _⟩ := T'.ob; ⟨o, z⟩
    exact wpAny_pure ⟨_, rfl, .non, upd H a (SetQ X.prog X.w a L'), I.write (e := a) (t' := _) (by rw [ha]; trivial) (.inl rfl) (fun b u hb hu => (sb.2 b hb).trans hu) he (setQ_new T'), rfl, yes L' pm⟩
def tAddQ (K : PySem.W.Frag) (P : Program) (w : World) (to : TE) (t : TA) : TE := fun σ H Q => to σ H fun x H1 => (∃ a L, x = V.ref a ∧ H1 a = some (SetQ P w a L)) ∧ t σ H1 fun xs H2 => rAddQ K P w x xs H2 Q
variable {o e : Expr} {es : List Expr} {to : TE} {t : TA} {apos cpos : Pos}
theorem pe_addQ (hu : X.A.units + 65 < cLine) (ho : PE X o to) (ha : PA X (e :: es) t)
    (hb : attributeBase o "add" X.env (eval o X.env) = eval o X.env := by rfl)
    (hf : ((backTo cpos (starEach (e :: es) X.env)).all (fun x => !x.1) && (backToKw cpos (keywordEach [] X.env)).all (fun x => x.1.isSome)
      && decide ((e :: es).length + ([] : List Keyword).length + (if ([] : List Keyword).isEmpty then 0 else 1) < 30)) = true := by rfl)
    (hl : (apos.endLine == cpos.line) = true := by rfl) (hs : starEach (e :: es) X.env = (false, eval e X.env) :: starEach es X.env := by rfl) (hp : (backTo cpos (starEach es X.env)).any (·.1) = false := by rfl) :
    PE X (.Call (.Attribute o "add" apos) (e :: es) [] cpos) (tAddQ X.K X.prog X.w to t) := by
  refine ⟨fun pins s σ H Q I h => ?_⟩
  refine wpAny_Call_method_late hb hf hl rfl (thn (ho.run pins s σ H _ I h) fun v s1 ⟨x, H1, I1, r1, ty, q1⟩ => ?_)
  obtain ⟨a, L, rfl, ka⟩ := ty
  obtain ⟨es1, ep, tt, T⟩ := setQ_get I1 ka
  obtain ⟨ob, hob, hex, _⟩ := T.ob
  cases r1
  refine ⟨"set", "set.add", F.plainAttrs_set, F.slot_set_add, F.type_set_add, ⟨ob, hob, hex.1⟩, (fun b z => by injection z with z; subst z; exact ⟨ob, hob, hex.2.1⟩), ?_⟩
  have run := ha.run cpos pins s1 σ H1 _ I1 q1
  rw [hs] at run ⊢
  refine Calls.callWith_builtin (by show (false || (backTo cpos (starEach es X.env)).any (·.1)) = false; rw [hp]; rfl) (Calls.evalArgs_plain ?_)
  exact thn run fun us s2 ⟨vs, H2, I2, r2, q2⟩ => mt_addQ hu pins s2 σ H2 (.ref a) vs (.ref a) us Q I2 rfl r2 q2
end
end L2

namespace Fm
open PySem PySem.Spec PyProof.Rows L2
def endsM (f : Str) : Bool := inV (.str f) [.str "stop", .str "quit"]
def pushIf (Ls : List LineM) (n : Nat) (g : Bool) : List QK := if (lineAt Ls n).form = "if" then [((lineAt Ls n).oth, g)] else []
def pushThen (Ls : List LineM) (n : Nat) (g : Bool) : List QK := if endsM (lineAt Ls n).form = true then [] else [((lineAt Ls n).thn, g || decide ((lineAt Ls n).form = "go"))]
def behindM : Nat → List LineM → Nat → List QK → List QK → List Nat → Option (List Nat)
  | 0, _, _, _, _, _ => none
  | k + 1, Ls, h, wt, sn, late => match wt.getLast? with
    | none => some late
    | some q =>
      if q.1 = h then behindM k Ls h wt.dropLast sn late
      else if 10 ≤ q.1 then none
      else if q ∈ sn then behindM k Ls h wt.dropLast sn late
      else if q.1 = 0 ∨ Ls.length < q.1 ∨ 4 ≤ sn.length then none
      else behindM k Ls h ((wt.dropLast ++ pushIf Ls q.1 q.2) ++ pushThen Ls q.1 q.2) (q :: sn) (if q.2 = true then late ++ [q.1] else late)
end Fm
namespace K40
open PySem PySem.Spec PyProof.Rows L2 Fm PySem.RingX
/-- between two turns: w what waits, y the numbers, x the set -/
structure InvB (P : Program) (w0 : World) (H0 H : Hp) (w y x : Addr) (W L : List (Addr × QK)) (late : List Nat) : Prop where
  sm : Same H0 H
  hw : H w = some (.lst (W.map fun p => V.ref p.1))
  hy : H y = some (.lst (intL late))
  hx : H x = some (SetQ P w0 x L)
  ew : ∀ p ∈ W, H p.1 = some (.tup (qV p.2))
  el : ∀ p ∈ L, H p.1 = some (.tup (qV p.2))
section
variable {P : Program} {w0 : World} {H0 H : Hp} {w y x : Addr} {W L : List (Addr × QK)} {late : List Nat}
theorem InvB.same {H' : Hp} (I : InvB P w0 H0 H w y x W L late) (s : Same H H') : InvB P w0 H0 H' w y x W L late :=
  ⟨I.sm.trans s, s _ _ I.hw, s _ _ I.hy, s _ _ I.hx, fun p hp => s _ _ (I.ew p hp), fun p hp => s _ _ (I.el p hp)⟩
theorem tup_keep {a b : Addr} {xs : List V} {o u : HO} (h : H a = some (.tup xs)) (hb : H b = some u) (nt : ∀ zs, u ≠ .tup zs) : upd H b o a = some (.tup xs) := by
  rw [upd_ne]
  · exact h
  · rintro rfl
    exact nt _ (Option.some.inj (hb.symm.trans h))
theorem InvB.setW {W' : List (Addr × QK)} (I : InvB P w0 H0 H w y x W L late) (nwy : w ≠ y) (nwx : w ≠ x) (z0 : H0 w = none) (hn : ∀ p ∈ W', H p.1 = some (.tup (qV p.2))) : InvB P w0 H0 (upd H w (.lst (W'.map fun p => V.ref p.1))) w y x W' L late := by
  exact ⟨I.sm.updl z0, upd_same, by rw [upd_ne (Ne.symm nwy)]; exact I.hy, by rw [upd_ne (Ne.symm nwx)]; exact I.hx, fun p hp => tup_keep (hn p hp) I.hw (fun _ z => nomatch z), fun p hp => tup_keep (I.el p hp) I.hw (fun _ z => nomatch z)⟩
/-- a new pair is pushed -/
theorem InvB.push {q : QK} {p : Addr} (I : InvB P w0 H0 H w y x W L late) (nwy : w ≠ y) (nwx : w ≠ x) (z0 : H0 w = none) (hp : H p = none) : InvB P w0 H0 (upd (upd H p (.tup (qV q))) w (.lst ((W.map fun p => V.ref p.1) ++ [V.ref p]))) w y x (W ++ [(p, q)]) L late := by
  have I1 := I.same (same_upd (o := .tup (qV q)) hp)
  have e := I1.setW (W' := W ++ [(p, q)]) nwy nwx z0 fun r hr => by
    rcases List.mem_append.mp hr with hr | hr
    · exact I1.ew r hr
    · rw [List.mem_singleton.mp hr]; exact upd_same
  rwa [List.map_append] at e
theorem InvB.setY {late' : List Nat} (I : InvB P w0 H0 H w y x W L late) (nwy : w ≠ y) (nyx : y ≠ x) (y0 : H0 y = none) : InvB P w0 H0 (upd H y (.lst (intL late'))) w y x W L late' := by
  exact ⟨I.sm.updl y0, by rw [upd_ne nwy]; exact I.hw, upd_same, by rw [upd_ne (Ne.symm nyx)]; exact I.hx, fun p hp => tup_keep (I.ew p hp) I.hy (fun _ z => nomatch z), fun p hp => tup_keep (I.el p hp) I.hy (fun _ z => nomatch z)⟩
theorem InvB.setX {L' : List (Addr × QK)} (I : InvB P w0 H0 H w y x W L late) (nwx : w ≠ x) (nyx : y ≠ x) (x0 : H0 x = none) (hn : ∀ p ∈ L', H p.1 = some (.tup (qV p.2))) : InvB P w0 H0 (upd H x (SetQ P w0 x L')) w y x W L' late := by
  exact ⟨I.sm.updl x0, by rw [upd_ne nwx]; exact I.hw, by rw [upd_ne nyx]; exact I.hy, upd_same, fun p hp => tup_keep (I.ew p hp) I.hx (fun _ z => nomatch z), fun p hp => tup_keep (hn p hp) I.hx (fun _ z => nomatch z)⟩
end
section
variable {P : Program} {w : World} {K : PySem.W.Frag} {mg : Str → Option Value} {base : Heap}
def nBG : List Str := ["program", "head", "seen", "late", "waiting", "number", "gone", "line"]
def spBehind (K : PySem.W.Frag) (C : Addr) : Sp := fun vs H Q _ => ∃ (t : Addr) (h : Nat) (ps : List Addr) (Ls : List LineM) (k : Nat) (late : List Nat), vs = [.ref t, .int h] ∧ SqT K H t (ps.map V.ref) ∧ Objs K C H ps Ls ∧ 1 ≤ h ∧ h ≤ Ls.length ∧ k ≤ 100000 ∧ behindM k Ls h [((lineAt Ls h).thn, false)] [] [] = some late ∧
  ∀ (p : Addr) (H' : Hp), H p = none → Same H H' → H' p = some (.lst (intL late)) → Q (.ref p) H'
theorem scBehind : FnScope nBG ["program", "head"] (defScope s_behind_go) := ⟨rfl, rfl, rfl, by decide +kernel, rfl, by decide +kernel, by decide +kernel⟩
theorem ok_behind {C : Addr} (R : Raw K mg "behind_go" s_behind_go ["program", "head"]) (T : GB mg) (TL : ClsT K mg C "Line" lineNames) : Def P w K mg base CX0 "behind_go" 1 ["program", "head"] (spBehind K C) := by
  refine R.def fun f fd F => F.ok scBehind (fun vs H Q E h => ?_) (fun cdv A outer s H vs Q E hr h => ?_)
  · obtain ⟨t, h, ps, Ls, k, late, rfl, _⟩ := h
    rfl
  · obtain ⟨t, hd, ps, Ls, k, late, rfl, sq, ob, hd1, hd2, hk, hw, kk⟩ := h
    have pl : ps.length = Ls.length := ob.len
    have hu65 : (A.deeper (envOfC "behind_go" (defScope s_behind_go) s.heap.objs.size f cdv)).units + 65 < cLine := by have := hr.un; omega
    obtain ⟨tF, pF, qF⟩ : ∃ tF, PSs (cxOf CX0 P w K mg base nBG "behind_go" (defScope s_behind_go) f cdv A outer s H E).nox ((whileB (nthS (defBody s_behind_go) 3)).drop 6) tF ∧
        ∀ (D : Ends) (y x z : Addr) (p : Addr) (q : QK) (W L : List (Addr × QK)) (late : List Nat) (H1 : Hp), z ≠ y → z ≠ x → H z = none → InvB P w H H1 z y x W L late → LineAt K C H1 p (lineAt Ls q.1) → W.length ≤ 300000 →
          (∀ W' H2, W'.map (·.2) = W.map (·.2) ++ pushThen Ls q.1 q.2 → InvB P w H H2 z y x W' L late → D.nx [some (.ref t), some (.int hd), some (.ref x), some (.ref y), some (.ref z), some (.int q.1), some (.bl q.2), some (.ref p)] H2) →
          tF D [some (.ref t), some (.int hd), some (.ref x), some (.ref y), some (.ref z), some (.int q.1), some (.bl q.2), some (.ref p)] H1 := by
      refine ⟨_, (pss_one (ps_if (pt_cmpR op_notIn_seq (pe_fld (pv 7) rfl) (pe_tup (pa_cons pe_str (pa_cons pe_str pa_nil))) (by rfl)) (pss_one (ps_expr (pe_bm PySem.F.plainAttrs_list PySem.F.slot_list_append PySem.F.type_list_append mt_append (pv 4) (pa_cons (pe_tup (pa_cons (pe_fld (pv 7) rfl) (pa_cons (pe_or (pv 6) (pe_one (pe_cmpR op_eq (pe_fld (pv 7) rfl) pe_str (nomark _)))) pa_nil))) pa_nil)))) pss_nil)), ?_⟩
      intro D y x z p q W L late H1 nzy nzx z0 I la hWl next
      obtain ⟨dx, vw, vt, hln, _⟩ := la
      refine ⟨_, rfl, p, C, dx, _, _, rfl, hln, TL.cl, TL.no _ (by simp [lineNames]), ln_form .., (by show 2 ≤ sizeLine; decide), fun q1 h1 => ?_⟩
      have s1 := same_upd (o := .tup [V.str "stop", V.str "quit"]) h1
      refine ⟨q1, _, rfl, .inr (SqT.of upd_same), rfl, by rfl, _, rfl, ?_⟩
      have I1 := I.same s1
      have hl1 := s1 _ _ hln
      generalize upd H1 q1 (.tup [V.str "stop", V.str "quit"]) = H2 at *
      rw [if_pos rfl]
      show if (!(endsM (lineAt Ls q.1).form)) = true then _ else _
      cases c : endsM (lineAt Ls q.1).form with
      | true => exact iteF (next W H2 (by simp [pushThen, c]) I1)
      | false =>
        refine iteT ⟨_, rfl, .inl ⟨rfl, _, SqL.of I1.hw⟩, _, rfl, p, C, dx, _, _, rfl, hl1, TL.cl, TL.no _ (by simp [lineNames]), ln_then .., ?_⟩
        have fin : ∀ b, b = (q.2 || decide ((lineAt Ls q.1).form = "go")) → ∀ r, H2 r = none → D.nx [some (.ref t), some (.int hd), some (.ref x), some (.ref y), some (.ref z), some (.int q.1), some (.bl q.2), some (.ref p)] (upd (upd H2 r (.tup [V.int (lineAt Ls q.1).thn, .bl b])) z (.lst ((W.map fun p => V.ref p.1) ++ [V.ref r]))) := fun b hb r hr => by
          refine next (W ++ [(r, ((lineAt Ls q.1).thn, b))]) _ ?_ (I1.push (q := ((lineAt Ls q.1).thn, b)) nzy nzx z0 hr)
          rw [List.map_append, hb]
          simp [pushThen, c]
        have bd : (W.map fun p => V.ref p.1).length + 1 ≤ sizeLine := by rw [List.length_map, sizeLine_eq]; omega
        cases hg : q.2 with
        | true =>
          rw [hg] at fin
          refine ⟨_, rfl, true, rfl, iteT ⟨(by show 2 ≤ sizeLine; decide), fun r hr => ⟨z, _, _, rfl, rfl, ?_, bd, ?_⟩⟩⟩
          · exact (same_upd hr) _ _ I1.hw
          · exact fin true (by rw [Bool.true_or]) r hr
        | false =>
          rw [hg] at fin
          refine ⟨_, rfl, false, rfl, iteF ⟨_, rfl, p, C, dx, _, _, rfl, hl1, TL.cl, TL.no _ (by simp [lineNames]), ln_form .., rfl, (by show 2 ≤ sizeLine; decide), fun r hr => ⟨z, _, _, rfl, rfl, ?_, bd, ?_⟩⟩⟩
          · exact (same_upd hr) _ _ I1.hw
          · have e : decide (V.str (lineAt Ls q.1).form = V.str "go") = decide ((lineAt Ls q.1).form = "go") := by
              by_cases z : (lineAt Ls q.1).form = "go"
              · rw [decide_eq_true z, decide_eq_true (congrArg V.str z)]
              · rw [decide_eq_false z, decide_eq_false fun k => z (V.str.inj k)]
            exact fin _ (by rw [Bool.false_or]; exact e) r hr
    obtain ⟨tE, pE, qE⟩ : ∃ tE, PSs (cxOf CX0 P w K mg base nBG "behind_go" (defScope s_behind_go) f cdv A outer s H E).nox ((whileB (nthS (defBody s_behind_go) 3)).drop 5) tE ∧
        ∀ (D : Ends) (y x z : Addr) (p : Addr) (q : QK) (W L : List (Addr × QK)) (late : List Nat) (H1 : Hp), z ≠ y → z ≠ x → H z = none → InvB P w H H1 z y x W L late → LineAt K C H1 p (lineAt Ls q.1) → W.length ≤ 200000 →
          (∀ W' H2, W'.map (·.2) = (W.map (·.2) ++ pushIf Ls q.1 q.2) ++ pushThen Ls q.1 q.2 → InvB P w H H2 z y x W' L late → D.nx [some (.ref t), some (.int hd), some (.ref x), some (.ref y), some (.ref z), some (.int q.1), some (.bl q.2), some (.ref p)] H2) →
          tE D [some (.ref t), some (.int hd), some (.ref x), some (.ref y), some (.ref z), some (.int q.1), some (.bl q.2), some (.ref p)] H1 := by
      refine ⟨_, pss_cons (ps_if (pt_cmpR op_eq (pe_fld (pv 7) rfl) pe_str (nomark _)) (pss_one (ps_expr (pe_bm PySem.F.plainAttrs_list PySem.F.slot_list_append PySem.F.type_list_append mt_append (pv 4) (pa_cons (pe_tup (pa_cons (pe_fld (pv 7) rfl) (pa_cons (pv 6) pa_nil))) pa_nil)))) pss_nil) pF, ?_⟩
      intro D y x z p q W L late H1 nzy nzx z0 I la hWl next
      obtain ⟨dx, vw, vt, hln, dd⟩ := id la
      refine ⟨_, rfl, p, C, dx, _, _, rfl, hln, TL.cl, TL.no _ (by simp [lineNames]), ln_form .., rfl, _, rfl, ?_⟩
      by_cases c : (lineAt Ls q.1).form = "if"
      · refine ifT (decide_eq_true (congrArg V.str c)) ⟨_, rfl, .inl ⟨rfl, _, SqL.of I.hw⟩, _, rfl, p, C, dx, _, _, rfl, hln, TL.cl, TL.no _ (by simp [lineNames]), ln_other .., _, rfl, (by show 2 ≤ sizeLine; decide), fun r hr => ⟨z, _, _, rfl, rfl, (same_upd hr) _ _ I.hw, (by rw [List.length_map, sizeLine_eq]; omega), ?_⟩⟩
        have I1 := I.push (q := ((lineAt Ls q.1).oth, q.2)) nzy nzx z0 hr
        have npz : p ≠ z := ne_of hln I.hw (fun z => nomatch z)
        have ext : ExtT H1 (upd (upd H1 r (.tup (qV ((lineAt Ls q.1).oth, q.2)))) z (.lst ((W.map fun p => V.ref p.1) ++ [V.ref r]))) := (ExtT.of (same_upd hr)).trans (ExtT.lst ((same_upd hr) _ _ I.hw))
        refine qF D y x z p q _ L late _ nzy nzx z0 I1 (la.keep ext ?_) (by rw [List.length_append]; show W.length + 1 ≤ _; omega) fun W' H2 e I2 => next W' H2 ?_ I2
        · rw [upd_ne npz, (same_upd hr) _ _ hln, hln]
        · rw [e, List.map_append, pushIf, if_pos c]
          rfl
      · refine ifF (decide_eq_false fun z => c (V.str.inj z)) ?_
        exact qF D y x z p q W L late H1 nzy nzx z0 I la (by omega) fun W' H2 e I2 => next W' H2 (by rw [e, pushIf, if_neg c, List.append_nil]) I2
    obtain ⟨tD, pD, qD⟩ : ∃ tD, PSs (cxOf CX0 P w K mg base nBG "behind_go" (defScope s_behind_go) f cdv A outer s H E).nox ((whileB (nthS (defBody s_behind_go) 3)).drop 2) tD ∧
        ∀ (D : Ends) (y x z : Addr) (x7 : Option V) (q : QK) (W L : List (Addr × QK)) (late : List Nat) (H1 : Hp), z ≠ y → z ≠ x → y ≠ x → H z = none → H y = none → H x = none → InvB P w H H1 z y x W L late → W.length ≤ 200000 → late.length ≤ 200000 → q ∉ L.map (·.2) → L.length + 1 ≤ 4 → q.1 < 10 → (∀ r ∈ L, r.2.1 < 10) → 1 ≤ q.1 → q.1 ≤ Ls.length →
          (∀ W' L' H2 p, W'.map (·.2) = (W.map (·.2) ++ pushIf Ls q.1 q.2) ++ pushThen Ls q.1 q.2 → (L'.map (·.2)).Perm (q :: L.map (·.2)) → InvB P w H H2 z y x W' L' (if q.2 = true then late ++ [q.1] else late) → D.nx [some (.ref t), some (.int hd), some (.ref x), some (.ref y), some (.ref z), some (.int q.1), some (.bl q.2), some (.ref p)] H2) →
          tD D [some (.ref t), some (.int hd), some (.ref x), some (.ref y), some (.ref z), some (.int q.1), some (.bl q.2), x7] H1 := by
      refine ⟨_, pss_cons (ps_expr (pe_addQ hu65 (pv 2) (pa_cons (pe_tup (pa_cons (pv 5) (pa_cons (pv 6) pa_nil))) pa_nil)))
        (pss_cons (ps_set (i := 7) scBehind.nd rfl (Or.inl rfl) (pe_ix ix_tup (pv 0) (pe_op op_sub (pv 5) pe_int) (fun _ _ => rfl)))
        (pss_cons (ps_if (pt_val (pv 6)) (pss_one (ps_expr (pe_bm PySem.F.plainAttrs_list PySem.F.slot_list_append PySem.F.type_list_append mt_append (pv 3) (pa_cons (pv 5) pa_nil)))) pss_nil) pE)), ?_⟩
      intro D y x z x7 q W L late H1 nzy nzx nyx z0 y0 x0 I hWl hll nq few b1 b2 n1 n2 next
      refine ⟨_, rfl, ⟨x, L, rfl, I.hx⟩, _, rfl, _, rfl, (by show 2 ≤ sizeLine; decide), fun r hr => ?_⟩
      have s1 := same_upd (o := .tup (qV q)) hr
      have I1 := I.same s1
      have hr1 : upd H1 r (.tup (qV q)) r = some (.tup (qV q)) := upd_same
      refine ⟨_, r, x, q, L, rfl, ⟨rfl, rfl, SqT.of hr1, I1.hx, fun p hp => SqT.of (I1.el p hp), b1, b2⟩, nq, few, fun L' pm => ?_⟩
      have I2 := I1.setX (L' := L') nzx nyx x0 fun p hp => by
        rcases List.mem_cons.mp (pm.mem_iff.mp hp) with e | hp
        · rw [e]; exact hr1
        · exact I1.el p hp
      have pm2 : (L'.map (·.2)).Perm (q :: L.map (·.2)) := pm.map (·.2)
      have ob2 := ob.same I2.sm
      obtain ⟨p, hp, _, la⟩ := ob2.at_ n1 n2
      have at1 : atI (ps.map V.ref) ((q.1 : Int) - 1) = some (.ref p) := by
        rw [show (q.1 : Int) - 1 = ((q.1 - 1 : Nat) : Int) by omega]
        exact atI_nat (by rw [List.getElem?_map, hp]; rfl)
      refine ⟨_, rfl, _, rfl, _, _, rfl, rfl, t, _, _, .ref p, rfl, rfl, I2.sm.sqT sq, at1, ?_⟩
      refine ⟨_, rfl, _, rfl, ?_⟩
      by_cases hg : q.2 = true
      · rw [if_pos hg] at next
        refine ifT hg ⟨_, rfl, .inl ⟨rfl, _, SqL.of I2.hy⟩, _, rfl, y, _, _, rfl, rfl, I2.hy, (by show (late.map _).length + 1 ≤ _; rw [List.length_map, sizeLine_eq]; omega), ?_⟩
        have I3 := I2.setY (late' := late ++ [q.1]) nzy nyx y0
        have e3 : intL (late ++ [q.1]) = intL late ++ [V.int q.1] := by show (late ++ [q.1]).map _ = _; rw [List.map_append]; rfl
        rw [e3] at I3
        have npy : p ≠ y := by
          obtain ⟨dx, vw, vt, hln, dd⟩ := id la
          exact ne_of hln I2.hy (fun z => nomatch z)
        exact qE D y x z p q W L' (late ++ [q.1]) _ nzy nzx z0 I3 (la.keep (ExtT.lst I2.hy) (upd_ne npy)) hWl fun W' H3 e I4 => next W' L' H3 p e pm2 I4
      · rw [if_neg hg] at next
        refine ifF (Bool.eq_false_iff.mpr hg) ?_
        exact qE D y x z p q W L' late _ nzy nzx z0 I2 la hWl fun W' H3 e I4 => next W' L' H3 p e pm2 I4
    have sx1 : ∀ {H1 : Hp} {a : Addr}, Same H H1 → H1 a = none → H a = none := fun {H1 a} sm h => by
      cases e : H a with
      | none => rfl
      | some u => rw [sm _ _ e] at h; cases h
    refine ⟨_, pss_cons (ps_set (i := 2) scBehind.nd rfl (Or.inl rfl) (pe_callTy0 cr_set0Q (by rfl) T.set (by decide +kernel)))
      (pss_cons (ps_set (i := 3) scBehind.nd rfl (Or.inl rfl) (pe_lst pa_nil))
      (pss_cons (ps_set (i := 4) scBehind.nd rfl (Or.inl rfl) (pe_lst (pa_cons (pe_tup (pa_cons (pe_fld (pe_ix ix_tup (pv 0) (pe_op op_sub (pv 1) pe_int) (fun _ _ => rfl)) rfl) (pa_cons pe_bl pa_nil))) pa_nil)))
      (pss_cons (ps_while PassesOwn.never (pt_cmpR op_gt (pe_callB call_len_seq (by rfl) T.len PySem.boot_len (pa_cons (pv 4) pa_nil)) pe_int (nomark _))
        (pss_cons (ps_asg (pe_bm0 PySem.F.plainAttrs_list PySem.F.slot_list_pop PySem.F.type_list_pop mt_pop (pv 4)) (pg_tup rfl (pgs_cons (pg_name (i := 5) scBehind.nd rfl (Or.inl rfl)) (pgs_cons (pg_name (i := 6) scBehind.nd rfl (Or.inl rfl)) pgs_nil))))
        (pss_cons (ps_if (PW.pt (pw_or (pt_cmpR op_eq (pv 5) (pv 1) (nomark _)) (pw_or1 (pt_cmpR (op_inQ hu65) (pe_tup (pa_cons (pv 5) (pa_cons (pv 6) pa_nil))) (pv 2) (by rfl))))) (pss_one ps_continue) pss_nil)
        pD)))
      (pss_one (ps_ret (pv 3)))))), ?_⟩
    obtain ⟨p0, hp0, _, dx0, vw0, vt0, hl0, dw0, dt0⟩ := ob.at_ hd1 hd2
    have at0 : atI (ps.map V.ref) ((hd : Int) - 1) = some (.ref p0) := by
      rw [show (hd : Int) - 1 = ((hd - 1 : Nat) : Int) by omega]
      exact atI_nat (by rw [List.getElem?_map, hp0]; rfl)
    refine ⟨rfl, fun x hx => ?_⟩
    have s1 : Same H (upd H x (SetQ P w x [])) := same_upd hx
    refine ⟨(by show 0 ≤ sizeLine; decide), fun y hy => ?_⟩
    have s2 : Same (upd H x (SetQ P w x [])) (upd (upd H x (SetQ P w x [])) y (.lst [])) := same_upd hy
    have s12 := s1.trans s2
    refine ⟨_, rfl, _, rfl, _, _, rfl, rfl, t, _, _, .ref p0, rfl, rfl, s12.sqT sq, at0, p0, C, dx0, _, _, rfl, s12 _ _ hl0, TL.cl, TL.no _ (by simp [lineNames]), ln_then .., (by show 2 ≤ sizeLine; decide), fun r hr => ?_⟩
    have s3 : Same (upd (upd H x (SetQ P w x [])) y (.lst [])) (upd (upd (upd H x (SetQ P w x [])) y (.lst [])) r (.tup (qV ((lineAt Ls hd).thn, false)))) := same_upd hr
    refine ⟨(by show 1 ≤ sizeLine; decide), fun z hz => ?_⟩
    have s4 : Same (upd (upd (upd H x (SetQ P w x [])) y (.lst [])) r (.tup (qV ((lineAt Ls hd).thn, false)))) (upd (upd (upd (upd H x (SetQ P w x [])) y (.lst [])) r (.tup (qV ((lineAt Ls hd).thn, false)))) z (.lst [V.ref r])) := same_upd hz
    have x0 : H x = none := hx
    have y0 : H y = none := sx1 s1 hy
    have z0 : H z = none := sx1 (s12.trans s3) hz
    have Hx := (s2.trans (s3.trans s4)) x _ upd_same
    have Hy := (s3.trans s4) y _ upd_same
    have Hr := s4 r _ upd_same
    have nyx : y ≠ x := by
      rintro rfl
      have hy : upd H y (SetQ P w y []) y = none := hy
      rw [upd_same] at hy; cases hy
    have nzy : z ≠ y := by
      rintro rfl
      have hz : upd (upd (upd H x (SetQ P w x [])) z (.lst [])) r (.tup (qV ((lineAt Ls hd).thn, false))) z = none := hz
      rw [s3 z _ upd_same] at hz; cases hz
    have nzx : z ≠ x := by
      rintro rfl
      have hz : upd (upd (upd H z (SetQ P w z [])) y (.lst [])) r (.tup (qV ((lineAt Ls hd).thn, false))) z = none := hz
      rw [(s2.trans s3) z _ upd_same] at hz; cases hz
    have I0 : InvB P w H (upd (upd (upd (upd H x (SetQ P w x [])) y (.lst [])) r (.tup (qV ((lineAt Ls hd).thn, false)))) z (.lst [V.ref r])) z y x [(r, ((lineAt Ls hd).thn, false))] [] [] :=
      ⟨(s12.trans s3).trans s4, upd_same, Hy, Hx, fun p hp => by rw [List.mem_singleton.mp hp]; exact Hr, fun p hp => absurd hp List.not_mem_nil⟩
    refine ⟨fun m σ H' => ∃ (x5 x6 x7 : Option V) (W L : List (Addr × QK)) (sn : List QK) (lt : List Nat), σ = [some (.ref t), some (.int hd), some (.ref x), some (.ref y), some (.ref z), x5, x6, x7] ∧ InvB P w H H' z y x W L lt ∧ behindM m Ls hd (W.map (·.2)) sn lt = some late ∧ (L.map (·.2)).Perm sn ∧ (∀ r ∈ L, r.2.1 < 10) ∧ W.length + m ≤ 100001 ∧ lt.length + m ≤ 100000, ⟨k, _, _, _, _, _, _, _, rfl, I0, hw, List.Perm.refl _, fun r hr => absurd hr List.not_mem_nil, by show 1 + k ≤ _; omega, by show 0 + k ≤ _; omega⟩, ?_⟩
    clear I0 Hx Hy Hr s1 s2 s3 s4 s12 hx hy hr hz at0 hl0
    rintro m σ H1 ⟨x5, x6, x7, W, L, sn, lt, rfl, I, hm, pm, b10, b1, b2⟩
    cases m with
    | zero => exact absurd hm (by simp [behindM])
    | succ m =>
      refine ⟨_, rfl, z, _, rfl, .inl (SqL.of I.hw), _, _, rfl, rfl, _, rfl, ?_⟩
      rw [List.length_map]
      rcases List.eq_nil_or_concat W with rfl | ⟨W', ⟨a, q⟩, rfl⟩
      · refine ifF (by rfl) ?_
        have e : lt = late := Option.some.inj hm
        exact ⟨_, rfl, kk _ H1 y0 I.sm (by rw [← e]; exact I.hy)⟩
      · rw [List.concat_eq_append] at *
        have hq := I.ew (a, q) (List.mem_append_right _ (List.mem_singleton.mpr rfl))
        have I1 := I.setW (W' := W') nzy nzx z0 fun p hp => I.ew p (List.mem_append_left _ hp)
        have hq1 : upd H1 z (.lst (W'.map fun p => V.ref p.1)) a = some (.tup (qV q)) := tup_keep hq I.hw (fun _ z => nomatch z)
        have hzl : H1 z = some (.lst ((W'.map fun x => V.ref x.1) ++ [V.ref a])) := by rw [I.hw, List.map_append]; rfl
        rw [List.map_append] at hm
        simp only [behindM, List.map_cons, List.map_nil, List.getLast?_concat, List.dropLast_concat] at hm
        have bl : W'.length + 1 + (m + 1) ≤ 100001 := by rw [List.length_append] at b1; exact b1
        refine ifT (decide_eq_true (by rw [List.length_append]; show (0 : Int) < ((W'.length + 1 : Nat) : Int); omega)) ⟨fun σ' H' => ∃ (x5 x6 x7 : Option V) (W L : List (Addr × QK)) (sn : List QK) (lt : List Nat), σ' = [some (.ref t), some (.int hd), some (.ref x), some (.ref y), some (.ref z), x5, x6, x7] ∧ InvB P w H H' z y x W L lt ∧ behindM m Ls hd (W.map (·.2)) sn lt = some late ∧ (L.map (·.2)).Perm sn ∧ (∀ r ∈ L, r.2.1 < 10) ∧ W.length + m ≤ 100001 ∧ lt.length + m ≤ 100000, fun σ' H' ⟨x5, x6, x7, W, L, sn, lt, q1, q2⟩ => ⟨m, Nat.lt_succ_self m, x5, x6, x7, W, L, sn, lt, q1, q2⟩, ?_⟩
        refine ⟨_, rfl, .inl ⟨rfl, _, SqL.of hzl⟩, z, _, _, rfl, rfl, hzl, by rw [List.length_append]; exact List.getElem?_concat_length .., ?_⟩
        rw [List.dropLast_concat]
        refine ⟨a, _, rfl, SqT.of hq1, rfl, ?_⟩
        refine ⟨_, _, rfl, _, _, rfl, rfl, _, rfl, _, rfl, rfl, _, rfl, ?_⟩
        by_cases c : q.1 = hd
        · rw [if_pos c] at hm
          refine ifT (decide_eq_true (congrArg V.int (congrArg Int.ofNat c))) (iteT ?_)
          exact ⟨_, _, _, W', L, sn, lt, rfl, I1, hm, pm, b10, by omega, by omega⟩
        · rw [if_neg c] at hm
          by_cases c10 : 10 ≤ q.1
          · rw [if_pos c10] at hm; cases hm
          rw [if_neg c10] at hm
          refine ifF (decide_eq_false fun z => c (Int.ofNat.inj (V.int.inj z))) ⟨_, rfl, _, rfl, (by show 2 ≤ sizeLine; decide), fun r hr => ?_⟩
          have s5 := same_upd (o := .tup (qV q)) hr
          have I2 := I1.same s5
          refine ⟨_, rfl, r, x, q, L, ⟨rfl, rfl, SqT.of upd_same, I2.hx, fun p hp => SqT.of (I2.el p hp), by omega, b10⟩, _, rfl, ?_⟩
          by_cases cs : q ∈ sn
          · rw [if_pos cs] at hm
            refine ifT (decide_eq_true (pm.mem_iff.mpr cs)) ?_
            exact ⟨_, _, _, W', L, sn, lt, rfl, I2, hm, pm, b10, by omega, by omega⟩
          · rw [if_neg cs] at hm
            have nq : q ∉ L.map (·.2) := fun z => cs (pm.mem_iff.mp z)
            refine ifF (decide_eq_false nq) ?_
            by_cases ce : q.1 = 0 ∨ Ls.length < q.1 ∨ 4 ≤ sn.length
            · rw [if_pos ce] at hm; cases hm
            rw [if_neg ce] at hm
            have ln : L.length = sn.length := by rw [← pm.length_eq, List.length_map]
            refine qD _ y x z _ q W' L lt _ nzy nzx nyx z0 y0 x0 I2 (by omega) (by omega) nq (by omega) (by omega) b10 (by omega) (by omega) fun W2 L2 H2 p e pm2 I3 => ?_
            refine ⟨_, _, _, W2, L2, q :: sn, _, rfl, I3, by rw [e]; exact hm, pm2.trans (pm.cons q), fun r hr => ?_, ?_, ?_⟩
            · have hm2 : r.2 ∈ q :: L.map (·.2) := pm2.mem_iff.mp (List.mem_map.mpr ⟨r, hr, rfl⟩)
              rcases List.mem_cons.mp hm2 with e2 | hm2
              · rw [e2]; omega
              · obtain ⟨r2, h2, e2⟩ := List.mem_map.mp hm2
                rw [← e2]; exact b10 r2 h2
            · have e2 := congrArg List.length e
              rw [List.length_append, List.length_append, List.length_map, List.length_map] at e2
              have e3 : (pushIf Ls q.1 q.2).length ≤ 1 := by unfold pushIf; split <;> simp
              have e4 : (pushThen Ls q.1 q.2).length ≤ 1 := by unfold pushThen; split <;> simp
              omega
            · split
              · rw [List.length_append]; show lt.length + 1 + m ≤ _; omega
              · omega
end
end K40

namespace L2
open PySem PySem.Spec PyProof.Rows
section
variable {X : Cx}
/-- what is never reached -/
theorem ps_no {st : Stmt} : PS X st (fun _ _ _ => False) := ⟨fun _ _ _ _ _ _ h => h.elim⟩
theorem pss_no {l : List Stmt} : PSs X l (fun _ _ _ => False) := ⟨fun _ _ _ _ _ _ h => h.elim⟩
end
end L2
namespace K40
open PySem PySem.Spec PyProof.Rows L2 Fm PySem.RingX
def wkF (k : Str) (t l : Addr) (pa : Int) (pl : Bool) (d r : Addr) : List (Str × V) := [("kind", .str k), ("program", .ref t), ("loops", .ref l), ("passed", .int pa), ("placed", .bl pl), ("nexts", .int 0), ("writes", .int 0), ("settings", .ref d), ("refused", .ref r)]
def walkNames : List Str := ["kind", "program", "loops", "passed", "placed", "nexts", "writes", "settings", "refused"]
section
variable (k : Str) (t l : Addr) (pa z : Int) (pl b : Bool) (d r : Addr)
theorem wk_kind : (wkF k t l pa pl d r).lookup ("kind" : Str) = some (.str k) := by kernel_rfl
theorem wk_program : (wkF k t l pa pl d r).lookup ("program" : Str) = some (.ref t) := by kernel_rfl
theorem wk_loops : (wkF k t l pa pl d r).lookup ("loops" : Str) = some (.ref l) := by kernel_rfl
theorem wk_passed : (wkF k t l pa pl d r).lookup ("passed" : Str) = some (.int pa) := by kernel_rfl
theorem wk_placed : (wkF k t l pa pl d r).lookup ("placed" : Str) = some (.bl pl) := by kernel_rfl
theorem wk_settings : (wkF k t l pa pl d r).lookup ("settings" : Str) = some (.ref d) := by kernel_rfl
theorem wk_refused : (wkF k t l pa pl d r).lookup ("refused" : Str) = some (.ref r) := by kernel_rfl
theorem wp_passed : putF "passed" (.int z) (wkF k t l pa pl d r) = wkF k t l z pl d r := by kernel_rfl
theorem wp_placed : putF "placed" (.bl b) (wkF k t l pa pl d r) = wkF k t l pa b d r := by kernel_rfl
theorem wk_made : putF "refused" (.ref r) (putF "settings" (.ref d) (putF "writes" (.int 0) (putF "nexts" (.int 0) (putF "placed" (.bl false) (putF "passed" (.int 0) (putF "loops" (.ref l) (putF "program" (.ref t) (putF "kind" (.str k) [])))))))) = wkF k t l 0 false d r := by kernel_rfl
theorem wk_small : (wkF k t l pa pl d r).length < 1000 := by show 9 < 1000; decide
end
theorem wk_no (k : Str) (t l : Addr) (pa : Int) (pl : Bool) (d r : Addr) {m : Str} (h : walkNames.all (fun x => !(decide (m = x))) = true) : (wkF k t l pa pl d r).lookup m = none := by
  have h2 : ∀ x ∈ walkNames, m ≠ x := fun x hx => by
    have := List.all_eq_true.mp h x hx
    simpa using this
  unfold wkF
  rw [List.lookup_eq_none_iff]
  intro p hp
  have : p.1 ∈ walkNames := by
    simp only [List.mem_cons, List.mem_nil_iff, or_false] at hp
    rcases hp with rfl | rfl | rfl | rfl | rfl | rfl | rfl | rfl | rfl <;> simp [walkNames]
  simpa using h2 _ this
/-- a walk at p -/
structure WalkAt (CW : Addr) (H : Hp) (p dx : Addr) (k : Str) (t l d r : Addr) (pa : Nat) (pl : Bool) (loops : List Nat) (kvs : List (Key × V)) : Prop where
  ob : H p = some (.ins CW dx (wkF k t l pa pl d r))
  hl : H l = some (.lst (intL loops))
  hd : H d = some (.dK kvs)
  hr : H r = some (.lst [])
  ne : l ≠ r
section
variable {CW : Addr} {H H' : Hp} {p dx : Addr} {k : Str} {t l d r : Addr} {pa : Nat} {pl : Bool} {loops : List Nat} {kvs : List (Key × V)}
theorem WalkAt.same (W : WalkAt CW H p dx k t l d r pa pl loops kvs) (s : Same H H') : WalkAt CW H' p dx k t l d r pa pl loops kvs := ⟨s _ _ W.ob, s _ _ W.hl, s _ _ W.hd, s _ _ W.hr, W.ne⟩
theorem WalkAt.pl_ (W : WalkAt CW H p dx k t l d r pa pl loops kvs) : p ≠ l := ne_of W.ob W.hl (fun z => nomatch z)
theorem WalkAt.pd_ (W : WalkAt CW H p dx k t l d r pa pl loops kvs) : p ≠ d := ne_of W.ob W.hd (fun z => nomatch z)
theorem WalkAt.pr_ (W : WalkAt CW H p dx k t l d r pa pl loops kvs) : p ≠ r := ne_of W.ob W.hr (fun z => nomatch z)
theorem WalkAt.setP {pa' : Nat} {pl' : Bool} (W : WalkAt CW H p dx k t l d r pa pl loops kvs) : WalkAt CW (upd H p (.ins CW dx (wkF k t l pa' pl' d r))) p dx k t l d r pa' pl' loops kvs :=
  ⟨upd_same, by rw [upd_ne W.pl_.symm]; exact W.hl, by rw [upd_ne W.pd_.symm]; exact W.hd, by rw [upd_ne W.pr_.symm]; exact W.hr, W.ne⟩
theorem WalkAt.setD {kvs' : List (Key × V)} (W : WalkAt CW H p dx k t l d r pa pl loops kvs) : WalkAt CW (upd H d (.dK kvs')) p dx k t l d r pa pl loops kvs' :=
  ⟨by rw [upd_ne W.pd_]; exact W.ob, by rw [upd_ne (ne_of W.hl W.hd (fun z => nomatch z))]; exact W.hl, upd_same, by rw [upd_ne (ne_of W.hr W.hd (fun z => nomatch z))]; exact W.hr, W.ne⟩
theorem WalkAt.setR (W : WalkAt CW H p dx k t l d r pa pl loops kvs) : WalkAt CW (upd H r (.lst [])) p dx k t l d r pa pl loops kvs :=
  ⟨by rw [upd_ne W.pr_]; exact W.ob, by rw [upd_ne W.ne]; exact W.hl, by rw [upd_ne (ne_of W.hd W.hr (fun z => nomatch z))]; exact W.hd, upd_same, W.ne⟩
end
end K40

namespace K40
open PySem PySem.Spec PyProof.Rows L2 Fm PySem.RingX
def walkB (Ls : List LineM) (n : Nat) : Bool := decide ((lineAt Ls n).form = "walk")
section
variable {P : Program} {w : World} {K : PySem.W.Frag} {mg : Str → Option Value} {base : Heap}
def nWI : List Str := ["self", "kind", "program", "way", "number"]
def spWalkI (K : PySem.W.Frag) (C CW : Addr) : Sp := fun vs H Q _ => ∃ (p dx : Addr) (k : Str) (t wy : Addr) (ps : List Addr) (Ls : List LineM) (way : List Nat), vs = [.ref p, .str k, .ref t, .ref wy] ∧ H p = some (.ins CW dx []) ∧ SqT K H t (ps.map V.ref) ∧ Objs K C H ps Ls ∧ H wy = some (.lst (intL way)) ∧
  (∀ n ∈ way, 1 ≤ n ∧ n ≤ Ls.length) ∧ way.length ≤ 100000 ∧
  ∀ (l d r : Addr) (H' : Hp), (∀ b o, b ≠ p → H b = some o → H' b = some o) → H l = none → H d = none → H r = none → WalkAt CW H' p dx k t l d r 0 false (way.filter (walkB Ls)) [] → Q .non H'
theorem scWalkI : FnScope nWI ["self", "kind", "program", "way"] (defScope s_Walk_init) := ⟨rfl, rfl, rfl, by decide +kernel, rfl, by decide +kernel, by decide +kernel⟩
theorem ok_walkI {f C CW : Addr} {fd : FuncData} (F : Fun K "__init__" "Walk.__init__" s_Walk_init f fd) (T : ClsT K mg CW "Walk" walkNames) (TL : ClsT K mg C "Line" lineNames) : FnOk P w K mg base CX0 1 f fd ["self", "kind", "program", "way"] (spWalkI K C CW) := by
  refine F.ok scWalkI (fun vs H Q E h => ?_) (fun cdv A outer s H vs Q E hr h => ?_)
  · obtain ⟨p, dx, k, t, wy, ps, Ls, way, rfl, _⟩ := h
    rfl
  · obtain ⟨p, dx, k, t, wy, ps, Ls, way, rfl, hp, sq, ob, hwy, hn, hl, kk⟩ := h
    have pl : ps.length = Ls.length := ob.len
    refine ⟨_, pss_cons (ps_fld (pv 0) (pv 1) rfl) (pss_cons (ps_fld (pv 0) (pv 2) rfl)
      (pss_cons (ps_fld (pv 0) (pe_lc (own := [("number", 4)]) (g := gName 4) rfl scWalkI.nd (pi_list (pv 3)) (blkOk_by (own := [("number", 4)]) (N := nWI) (sc := defScope s_Walk_init) (by decide +kernel))
          (fun _ _ _ _ _ => pg_name (i := 4) scWalkI.nd rfl (Or.inl rfl)) (fun _ _ _ _ _ => pts_one (pt_cmpR (show OpR _ _ rEq from op_eq) (show PE _ _ (tFld K (tOp (rIxT K) (tVar 2) (tOp (rI0 fun i j => V.int (i - j)) (tVar 4) (tC (.int 1)))) "form") from pe_fld (pe_ix ix_tup (pv 2) (pe_op op_sub (pv 4) pe_int) (fun _ _ => rfl)) rfl) pe_str (nomark _))) (fun _ _ _ _ _ => pv 4)) rfl)
      (pss_cons (ps_fld (pv 0) pe_int rfl) (pss_cons (ps_fld (pv 0) pe_bl rfl) (pss_cons (ps_fld (pv 0) pe_int rfl) (pss_cons (ps_fld (pv 0) pe_int rfl) (pss_cons (ps_fld (pv 0) pe_dnewK rfl) (pss_one (ps_fld (pv 0) (pe_lst pa_nil) rfl))))))))), ?_⟩
    refine ⟨_, rfl, _, rfl, p, CW, dx, _, rfl, hp, T.cl, T.no _ (by simp [walkNames]), lt1000 nil_lt, _, rfl, _, rfl, p, CW, dx, _, rfl, upd_same, T.cl, T.no _ (by simp [walkNames]), lt1000 (putF_lt (nil_lt)), ?_⟩
    rw [upd_upd]
    have pps : p ∉ ps := fun m => by
      obtain ⟨i, hi, e⟩ := List.getElem_of_mem m
      have hp1 : ps[i]? = some p := by rw [List.getElem?_eq_getElem hi, e]
      have hi2 : i < Ls.length := by rw [← pl]; exact hi
      obtain ⟨dx', vw, vt, hln, _⟩ := ob.each i p Ls[i] hp1 (List.getElem?_eq_getElem hi2)
      rw [hp] at hln
      injection hln with z
      injection z with _ _ z
      exact nomatch z
    have tp : ∀ xs, H t = some (.tup xs) → t ≠ p := fun xs e => ne_of e hp (fun z => nomatch z)
    have e1 : ∀ fs, ExtT H (upd H p (.ins CW dx fs)) := fun fs => ExtT.ins hp
    have wyp : wy ≠ p := ne_of hwy hp (fun z => nomatch z)
    have sq1 : ∀ fs, SqT K (upd H p (.ins CW dx fs)) t (ps.map V.ref) := fun fs => (e1 fs).sqT sq
    have ob1 : ∀ fs, Objs K C (upd H p (.ins CW dx fs)) ps Ls := fun fs => ob.keep (e1 fs) fun q hq => upd_ne fun z => pps (z ▸ hq)
    have wy1 : ∀ fs, upd H p (.ins CW dx fs) wy = some (.lst (intL way)) := fun fs => by rw [upd_ne wyp]; exact hwy
    generalize hfs : putF "program" (V.ref t) (putF "kind" (V.str k) []) = fs at *
    have l2 : fs.length < 3 := by rw [← hfs]; exact putF_lt (putF_lt nil_lt)
    refine ⟨_, rfl, wy, rfl, ⟨_, SqL.of (wy1 fs)⟩, fun D hD => lc_list (K := K) (a := wy) (xs := intL way) (fun i H' => Same (upd H p (.ins CW dx fs)) H' ∧ H' D = some (.lst (intL ((way.take i).filter (walkB Ls))))) ⟨same_upd hD, upd_same⟩ (fun i H' _ h => SqL.of (h.1 _ _ (wy1 fs))) ?_ ?_⟩
    · rintro i y H1 hy ⟨s1, h1⟩
      rw [List.getElem?_map] at hy
      obtain ⟨n, hn', rfl⟩ := Option.map_eq_some_iff.mp hy
      obtain ⟨n1, n2⟩ := hn n (List.mem_of_getElem? hn')
      obtain ⟨q, hq, _, dx', vw, vt, hln, _⟩ := ((ob1 fs).same s1).at_ n1 n2
      have at1 : atI (ps.map V.ref) ((n : Int) - 1) = some (.ref q) := by
        rw [show (n : Int) - 1 = ((n - 1 : Nat) : Int) by omega]
        exact atI_nat (by rw [List.getElem?_map, hq]; rfl)
      have tk : ∀ b, walkB Ls n = b → (way.take (i + 1)).filter (walkB Ls) = (way.take i).filter (walkB Ls) ++ (if b = true then [n] else []) := fun b e => by
        rw [take_more hn', List.filter_append, List.filter_cons, e]
        cases b <;> rfl
      refine ⟨rfl, _, rfl, _, rfl, _, _, rfl, rfl, t, _, _, .ref q, rfl, rfl, s1.sqT (sq1 fs), at1, q, C, dx', _, _, rfl, hln, TL.cl, TL.no _ (by simp [lineNames]), ln_form .., rfl, _, rfl, ?_⟩
      by_cases c : (lineAt Ls n).form = "walk"
      · have e := tk true (decide_eq_true c)
        rw [decide_eq_true (congrArg V.str c)]
        refine iteT ⟨_, rfl, _, h1, ?_, s1.updl hD, ?_⟩
        · have := List.length_filter_le (walkB Ls) (way.take i)
          rw [List.length_take] at this
          rw [List.length_map, sizeLine_eq]; omega
        · rw [upd_same, e, if_pos rfl]
          show _ = some (HO.lst ((_ ++ [n]).map _))
          rw [List.map_append]; rfl
      · have e := tk false (decide_eq_false c)
        rw [decide_eq_false fun z => c (V.str.inj z)]
        exact iteF ⟨s1, by rw [h1, e, if_neg (by decide), List.append_nil]⟩
    · rintro H1 ⟨s1, h1⟩
      rw [List.length_map, List.take_length] at h1
      have h1p := s1 p _ upd_same
      refine ⟨_, rfl, p, CW, dx, _, rfl, h1p, T.cl, T.no _ (by simp [walkNames]), lt1000 l2, _, rfl, p, CW, dx, _, rfl, upd_same, T.cl, T.no _ (by simp [walkNames]), lt1000 (putF_lt l2), _, rfl, p, CW, dx, _, rfl, upd_same, T.cl, T.no _ (by simp [walkNames]), lt1000 (putF_lt (putF_lt l2)), _, rfl, p, CW, dx, _, rfl, upd_same, T.cl, T.no _ (by simp [walkNames]), lt1000 (putF_lt (putF_lt (putF_lt l2))), _, rfl, p, CW, dx, _, rfl, upd_same, T.cl, T.no _ (by simp [walkNames]), lt1000 (putF_lt (putF_lt (putF_lt (putF_lt l2)))), ?_⟩
      rw [upd_upd, upd_upd, upd_upd, upd_upd]
      have l7 : (putF "writes" (V.int 0) (putF "nexts" (V.int 0) (putF "placed" (V.bl false) (putF "passed" (V.int 0) (putF "loops" (V.ref D) fs))))).length < 8 := putF_lt (putF_lt (putF_lt (putF_lt (putF_lt l2))))
      rw [← hfs] at l7 ⊢
      generalize hgs : putF "writes" (V.int 0) (putF "nexts" (V.int 0) (putF "placed" (V.bl false) (putF "passed" (V.int 0) (putF "loops" (V.ref D) (putF "program" (V.ref t) (putF "kind" (V.str k) [])))))) = gs at l7 ⊢
      intro d hd
      have s2 := same_upd (o := .dK []) hd
      refine ⟨_, rfl, p, CW, dx, _, rfl, s2 _ _ upd_same, T.cl, T.no _ (by simp [walkNames]), lt1000 l7, (by show 0 ≤ sizeLine; decide), fun r hr => ?_⟩
      have s3 := same_upd (o := .lst []) hr
      refine ⟨_, rfl, p, CW, dx, _, rfl, s3 _ _ upd_same, T.cl, T.no _ (by simp [walkNames]), lt1000 (putF_lt l7), ?_⟩
      rw [← hgs, wk_made]
      have npq : ∀ {X : Hp} {o : HO} {b : Addr}, upd X p o b = none → b ≠ p ∧ X b = none := fun {X o b} z => by
        have e : b ≠ p := by
          rintro rfl
          rw [upd_same] at z; cases z
        rw [upd_ne e] at z
        exact ⟨e, z⟩
      have back : ∀ b, H1 b = none → b ≠ p → H b = none := fun b z e => by
        cases q : H b with
        | none => rfl
        | some u =>
          have : upd H p (HO.ins CW dx fs) b = some u := by rw [upd_ne e]; exact q
          rw [s1 _ _ this] at z; cases z
      obtain ⟨pD, hD0⟩ := npq hD
      obtain ⟨pd, hd1⟩ := npq hd
      have hd0 := back d hd1 pd
      obtain ⟨pr, hr1⟩ := npq (X := upd (upd H1 p (HO.ins CW dx gs)) d (.dK [])) hr
      have rd : r ≠ d := by
        rintro rfl
        rw [upd_same] at hr1; cases hr1
      rw [upd_ne rd, upd_ne pr] at hr1
      have hr0 := back r hr1 pr
      have Dd : D ≠ d := ne_of_none h1 hd1
      have Dr : D ≠ r := ne_of_none h1 hr1
      refine kk D d r _ (fun b o e q => ?_) hD0 hd0 hr0 ⟨upd_same, ?_, ?_, ?_, Dr⟩
      · have q1 : H1 b = some o := s1 _ _ (by rw [upd_ne e]; exact q)
        rw [upd_ne e, upd_ne (ne_of_none q1 hr1), upd_ne e, upd_ne (ne_of_none q1 hd1), upd_ne e]
        exact q1
      · rw [upd_ne pD, upd_ne Dr, upd_ne pD, upd_ne Dd, upd_ne pD]
        exact h1
      · rw [upd_ne pd, upd_ne rd.symm, upd_ne pd, upd_same]
      · rw [upd_ne pr, upd_same]
end
end K40

namespace K40
open PySem PySem.Spec PyProof.Rows L2 Fm PySem.RingX
section
variable {P : Program} {w : World} {K : PySem.W.Frag} {mg : Str → Option Value} {base : Heap}
def spBehindL (CW : Addr) : Sp := fun vs H Q _ => ∃ (p dx : Addr) (k : Str) (t l d r : Addr) (pa : Nat) (pl : Bool) (loops : List Nat) (kvs : List (Key × V)), vs = [.ref p] ∧ WalkAt CW H p dx k t l d r pa pl loops kvs ∧ Q (.bl (decide (pa = loops.length))) H
theorem scBehindL : FnScope ["self"] ["self"] (defScope s_Walk_is_behind_loops) := ⟨rfl, rfl, rfl, by decide +kernel, rfl, by decide +kernel, by decide +kernel⟩
theorem ok_behindL {f CW : Addr} {fd : FuncData} (F : Fun K "is_behind_loops" "Walk.is_behind_loops" s_Walk_is_behind_loops f fd) (TG : GB mg) (T : ClsT K mg CW "Walk" walkNames) : FnOk P w K mg base CX0 1 f fd ["self"] (spBehindL CW) := by
  refine F.ok scBehindL (fun vs H Q E h => ?_) (fun cdv A outer s H vs Q E hr h => ?_)
  · obtain ⟨p, dx, k, t, l, d, r, pa, pl, loops, kvs, rfl, _⟩ := h
    rfl
  · obtain ⟨p, dx, k, t, l, d, r, pa, pl, loops, kvs, rfl, W, q⟩ := h
    refine ⟨_, pss_one (ps_ret (pe_cmpR op_eq (pe_fld (pv 0) rfl) (pe_callB call_len_seq (by rfl) TG.len PySem.boot_len (pa_cons (pe_fld (pv 0) rfl) pa_nil)) (nomark _))), ?_⟩
    refine ⟨_, rfl, p, CW, dx, _, _, rfl, W.ob, T.cl, T.no _ (by simp [walkNames]), wk_passed .., _, rfl, p, CW, dx, _, _, rfl, W.ob, T.cl, T.no _ (by simp [walkNames]), wk_loops .., l, _, rfl, .inl (SqL.of W.hl), rfl, ?_⟩
    have e : decide (V.int (pa : Int) = V.int ((intL loops).length : Nat)) = decide (pa = loops.length) := by
      rw [List.length_map]
      by_cases z : pa = loops.length
      · rw [decide_eq_true z, z]; exact decide_eq_true rfl
      · rw [decide_eq_false z]; exact decide_eq_false fun y => z (Int.ofNat.inj (V.int.inj y))
    rw [e]
    exact q
def spMay (K : PySem.W.Frag) (C CW : Addr) : Sp := fun vs H Q _ => ∃ (p dx : Addr) (k : Str) (t l d r : Addr) (loops : List Nat) (kvs : List (Key × V)) (a : Addr) (ln : LineM), vs = [.ref p, .ref a] ∧ WalkAt CW H p dx k t l d r 0 false loops kvs ∧ k ≠ "take" ∧ LineAt K C H a ln ∧ ln.form = "set" ∧ ln.words = (["at", "first"] : List Str) ∧ Q (.bl true) H
theorem scMay : FnScope ["self", "line"] ["self", "line"] (defScope s_Walk_may_place) := ⟨rfl, rfl, rfl, by decide +kernel, rfl, by decide +kernel, by decide +kernel⟩
theorem ok_may {f C CW : Addr} {fd : FuncData} (F : Fun K "may_place" "Walk.may_place" s_Walk_may_place f fd) (TC : TopC K mg) (T : ClsT K mg CW "Walk" walkNames) (TL : ClsT K mg C "Line" lineNames) : FnOk P w K mg base CX0 1 f fd ["self", "line"] (spMay K C CW) := by
  obtain ⟨aS, gS, hS⟩ := TC.start
  refine F.ok scMay (fun vs H Q E h => ?_) (fun cdv A outer s H vs Q E hr h => ?_)
  · obtain ⟨p, dx, k, t, l, d, r, loops, kvs, a, ln, rfl, _⟩ := h
    rfl
  · obtain ⟨p, dx, k, t, l, d, r, loops, kvs, a, ln, rfl, W, hk, la, hf, hw, q⟩ := h
    have hu65 : (A.deeper (envOfC "Walk.may_place" (defScope s_Walk_may_place) s.heap.objs.size f cdv)).units + 65 < cLine := by have := hr.un; omega
    have hu64 : (A.deeper (envOfC "Walk.may_place" (defScope s_Walk_may_place) s.heap.objs.size f cdv)).units + 64 < cLine := by omega
    refine ⟨_, pss_cons (ps_if (pt_val (pe_fld (pv 0) rfl)) pss_no pss_nil)
      (pss_cons (ps_if (PW.pt (pw_and (pt_cmpR op_eq (pe_fld (pv 0) rfl) pe_int (nomark _)) (pw_and1 (pt_cmpR op_ne (pe_fld (pv 0) rfl) pe_str (nomark _)))))
        (pss_one (ps_ret (pe_and (pe_cmpR op_eq (pe_fld (pv 1) rfl) pe_str (nomark _)) (pe_one (pe_cmpR (op_eqD hu64) (pe_fld (pv 1) rfl) (pe_glob (v := .ref aS) (by rfl) gS rfl) (nomark _)))))) pss_nil)
      pss_no), ?_⟩
    obtain ⟨dl, vw, vt, hln, dw, dt⟩ := la
    refine ⟨_, rfl, p, CW, dx, _, _, rfl, W.ob, T.cl, T.no _ (by simp [walkNames]), wk_placed .., false, rfl, iteF ?_⟩
    refine ⟨_, rfl, p, CW, dx, _, _, rfl, W.ob, T.cl, T.no _ (by simp [walkNames]), wk_passed .., rfl, _, rfl, ifT (by rfl) ?_⟩
    refine ⟨_, rfl, p, CW, dx, _, _, rfl, W.ob, T.cl, T.no _ (by simp [walkNames]), wk_kind .., rfl, _, rfl, ?_⟩
    rw [decide_eq_false fun z => hk (V.str.inj z)]
    refine iteT ?_
    refine ⟨_, rfl, a, C, dl, _, _, rfl, hln, TL.cl, TL.no _ (by simp [lineNames]), ln_form .., rfl, _, rfl, ?_⟩
    rw [decide_eq_true (congrArg V.str hf)]
    refine iteT ?_
    rw [hw] at dw
    exact ⟨_, rfl, a, C, dl, _, _, rfl, hln, TL.cl, TL.no _ (by simp [lineNames]), ln_words .., _, _, dw, hS H, by decide +kernel, by decide +kernel, q⟩
def spEarly (K : PySem.W.Frag) (C CW : Addr) : Sp := fun vs H Q _ => ∃ (p dx : Addr) (k : Str) (t l d r : Addr) (loops : List Nat) (kvs : List (Key × V)) (a : Addr) (n : Nat) (ln : LineM), vs = [.ref p, .int n, .ref a] ∧ WalkAt CW H p dx k t l d r 0 false loops kvs ∧ k ≠ "take" ∧ LineAt K C H a ln ∧ ln.form = "set" ∧ ln.words = (["at", "first"] : List Str) ∧
  Q .non (upd H p (.ins CW dx (wkF k t l 0 true d r)))
theorem scEarly : FnScope ["self", "number", "line"] ["self", "number", "line"] (defScope s_Walk_meet_early_setting) := ⟨rfl, rfl, rfl, by decide +kernel, rfl, by decide +kernel, by decide +kernel⟩
theorem ok_early {f fM C CW : Addr} {fd fdM : FuncData} (F : Fun K "meet_early_setting" "Walk.meet_early_setting" s_Walk_meet_early_setting f fd) (T : ClsT K mg CW "Walk" walkNames) (GM : FnOk P w K mg base CX0 1 fM fdM ["self", "line"] (spMay K C CW)) (bM : L2.Binds K fdM ["self", "line"] []) (mM : Meth K CW "may_place" fM) : FnOk P w K mg base CX0 2 f fd ["self", "number", "line"] (spEarly K C CW) := by
  refine F.ok scEarly (fun vs H Q E h => ?_) (fun cdv A outer s H vs Q E hr h => ?_)
  · obtain ⟨p, dx, k, t, l, d, r, loops, kvs, a, n, ln, rfl, _⟩ := h
    rfl
  · obtain ⟨p, dx, k, t, l, d, r, loops, kvs, a, n, ln, rfl, W, hk, la, hf, hw, q⟩ := h
    refine ⟨_, pss_one (ps_if (pt_val (pe_meth (pv 0) T.cl mM GM hr bM .nil pass0 (pa_cons (pv 2) pa_nil))) (pss_one (ps_fld (pv 0) pe_bl rfl)) pss_no), ?_⟩
    refine ⟨_, rfl, p, dx, _, rfl, W.ob, wk_no _ _ _ _ _ _ _ (by decide +kernel), _, rfl, p, dx, k, t, l, d, r, loops, kvs, a, ln, rfl, W, hk, la, hf, hw, true, rfl, iteT ?_⟩
    refine ⟨_, rfl, p, CW, dx, _, rfl, W.ob, T.cl, T.no _ (by simp [walkNames]), wk_small .., ?_⟩
    rw [wp_placed]
    exact q
def spLate (K : PySem.W.Frag) (C CW : Addr) : Sp := fun vs H Q _ => ∃ (p dx : Addr) (k : Str) (t l d r : Addr) (pa : Nat) (pl : Bool) (loops : List Nat) (kvs : List (Key × V)) (a : Addr) (n : Nat) (ln : LineM) (x y : Str), vs = [.ref p, .int n, .ref a] ∧ WalkAt CW H p dx k t l d r pa pl loops kvs ∧ kvs.length ≤ 200000 ∧ LineAt K C H a ln ∧ ln.form = "set" ∧ ln.words = [x, y] ∧
  ∀ kvs', kvs'.length ≤ kvs.length + 1 → Q .non (upd H d (.dK kvs'))
theorem scLate : FnScope ["self", "number", "line", "name", "source"] ["self", "number", "line"] (defScope s_Walk_meet_late_setting) := ⟨rfl, rfl, rfl, by decide +kernel, rfl, by decide +kernel, by decide +kernel⟩
theorem ok_late {f C CW : Addr} {fd : FuncData} (F : Fun K "meet_late_setting" "Walk.meet_late_setting" s_Walk_meet_late_setting f fd) (T : ClsT K mg CW "Walk" walkNames) (TL : ClsT K mg C "Line" lineNames) : FnOk P w K mg base CX0 1 f fd ["self", "number", "line"] (spLate K C CW) := by
  refine F.ok scLate (fun vs H Q E h => ?_) (fun cdv A outer s H vs Q E hr h => ?_)
  · obtain ⟨p, dx, k, t, l, d, r, pa, pl, loops, kvs, a, n, ln, x, y, rfl, _⟩ := h
    rfl
  · obtain ⟨p, dx, k, t, l, d, r, pa, pl, loops, kvs, a, n, ln, x, y, rfl, W, hl, la, hf, hw, q⟩ := h
    have hu := hu_of hr
    obtain ⟨dl, vw, vt, hln, dw, dt⟩ := la
    refine ⟨_, pss_cons (ps_asg (pe_fld (pv 2) rfl) (pg_tup rfl (pgs_cons (pg_name (i := 3) scLate.nd rfl (Or.inl rfl)) (pgs_cons (pg_name (i := 4) scLate.nd rfl (Or.inl rfl)) pgs_nil))))
      (pss_cons (ps_if (pt_cmpR op_eq (pe_fld (pv 2) rfl) pe_str (nomark _)) pss_no pss_nil)
      (pss_one (ps_dput hu (pe_fld (pv 0) rfl) (pv 3) (pv 4) rfl))), ?_⟩
    obtain ⟨tw, xs, rfl, qx, px⟩ := dp_tup dw
    rw [hw] at px
    cases px with
    | cons p1 t1 =>
      cases t1 with
      | cons p2 t2 =>
        cases t2
        cases p1
        cases p2
        refine ⟨_, rfl, a, C, dl, _, _, rfl, hln, TL.cl, TL.no _ (by simp [lineNames]), ln_words .., tw, _, rfl, qx, rfl, ?_⟩
        refine ⟨_, _, rfl, _, _, rfl, rfl, _, rfl, a, C, dl, _, _, rfl, hln, TL.cl, TL.no _ (by simp [lineNames]), ln_form .., rfl, _, rfl, ?_⟩
        rw [hf]
        refine iteF ?_
        refine ⟨_, rfl, _, rfl, p, CW, dx, _, _, rfl, W.ob, T.cl, T.no _ (by simp [walkNames]), wk_settings .., _, rfl, d, _, rfl, DPut.k (k := Sum.inr x) W.hd (by rw [sizeLine_eq]; omega), ?_⟩
        exact q _ (length_putK ..)
end
end K40

namespace K40
open PySem PySem.Spec PyProof.Rows L2 Fm PySem.RingX
section
variable {P : Program} {w : World} {K : PySem.W.Frag} {mg : Str → Option Value} {base : Heap}
def spMLoop (K : PySem.W.Frag) (C CW : Addr) : Sp := fun vs H Q _ => ∃ (p dx : Addr) (k : Str) (t l d r : Addr) (pa : Nat) (pl : Bool) (loops : List Nat) (kvs : List (Key × V)) (n : Nat) (ps : List Addr) (Ls : List LineM) (kb : Nat), vs = [.ref p, .int n] ∧ WalkAt CW H p dx k t l d r pa pl loops kvs ∧
  SqT K H t (ps.map V.ref) ∧ Objs K C H ps Ls ∧ 1 ≤ n ∧ n ≤ Ls.length ∧ pa < 2 ∧ (pa = 0 → k ≠ "take" → pl = true) ∧ kb ≤ 100000 ∧ behindM kb Ls n [((lineAt Ls n).thn, false)] [] [] = some [] ∧
  ∀ H', (∀ b o, b ≠ p → b ≠ r → H b = some o → H' b = some o) → WalkAt CW H' p dx k t l d r (pa + 1) false loops kvs → Q .non H'
theorem scMLoop : FnScope ["self", "number"] ["self", "number"] (defScope s_Walk_meet_loop) := ⟨rfl, rfl, rfl, by decide +kernel, rfl, by decide +kernel, by decide +kernel⟩
theorem ok_mloop {f C CW : Addr} {fd : FuncData} (F : Fun K "meet_loop" "Walk.meet_loop" s_Walk_meet_loop f fd) (TC : TopC K mg) (T : ClsT K mg CW "Walk" walkNames) (DB : Def P w K mg base CX0 "behind_go" 1 ["program", "head"] (spBehind K C)) : FnOk P w K mg base CX0 2 f fd ["self", "number"] (spMLoop K C CW) := by
  obtain ⟨fB, dB, GB_, gB, kB, bB⟩ := DB
  obtain ⟨tk, gM⟩ := TC.loops
  refine F.ok scMLoop (fun vs H Q E h => ?_) (fun cdv A outer s H vs Q E hr h => ?_)
  · obtain ⟨p, dx, k, t, l, d, r, pa, pl, loops, kvs, n, ps, Ls, kb, rfl, _⟩ := h
    rfl
  · obtain ⟨p, dx, k, t, l, d, r, pa, pl, loops, kvs, n, ps, Ls, kb, rfl, W, sq, ob, n1, n2, hpa, hpl, hkb, hb, q⟩ := h
    obtain ⟨tD, pD, qD⟩ : ∃ tD, PSs (cxOf CX0 P w K mg base ["self", "number"] "Walk.meet_loop" (defScope s_Walk_meet_loop) f cdv A outer s H E).nox ((defBody s_Walk_meet_loop).drop 1) tD ∧ ∀ D : Ends, (∀ σ H', Q .non H' → D.nx σ H') → tD D [some (.ref p), some (.int n)] H := by
      refine ⟨_, (pss_cons (ps_if (pt_cmpR op_ge (pe_fld (pv 0) rfl) (pe_glob (v := .int 2) (by rfl) gM ⟨tk, rfl⟩) (nomark _)) pss_no pss_nil)
        (pss_cons (ps_expr (pe_bm PySem.F.plainAttrs_list PySem.F.slot_list_extend PySem.F.type_list_extend mt_extend (pe_fld (pv 0) rfl) (pa_cons (pe_call GB_ hr (by rfl) gB kB bB .nil pass0 (pa_cons (pe_fld (pv 0) rfl) (pa_cons (pv 1) pa_nil))) pa_nil)))
        (pss_cons (ps_fldaug (pv 0) pe_int in_add)
        (pss_one (ps_fld (pv 0) pe_bl rfl))))), ?_⟩
      intro D hD
      refine ⟨_, rfl, p, CW, dx, _, _, rfl, W.ob, T.cl, T.no _ (by simp [walkNames]), wk_passed .., _, _, rfl, rfl, _, rfl, ifF (decide_eq_false (by show ¬ (2 : Int) ≤ (pa : Nat); omega)) ?_⟩
      refine ⟨_, rfl, p, CW, dx, _, _, rfl, W.ob, T.cl, T.no _ (by simp [walkNames]), wk_refused .., .inl ⟨rfl, _, SqL.of W.hr⟩, _, rfl, p, CW, dx, _, _, rfl, W.ob, T.cl, T.no _ (by simp [walkNames]), wk_program .., _, rfl, t, n, ps, Ls, kb, [], rfl, sq, ob, n1, n2, hkb, hb, fun y H1 hy s1 h1 => ?_⟩
      have W1 := W.same s1
      have ry : r ≠ y := ne_of_none W.hr hy
      refine ⟨r, y, _, _, rfl, rfl, W1.hr, h1, (by show 0 + 0 ≤ sizeLine; decide), ?_⟩
      have W2 := W1.setR
      refine ⟨_, rfl, p, CW, dx, _, _, rfl, W2.ob, T.cl, T.no _ (by simp [walkNames]), wk_passed .., _, _, rfl, rfl, dx, _, W2.ob, wk_small .., ?_⟩
      rw [wp_passed]
      have W3 := W2.setP (pa' := pa + 1) (pl' := pl)
      refine ⟨_, rfl, p, CW, dx, _, rfl, W3.ob, T.cl, T.no _ (by simp [walkNames]), wk_small .., ?_⟩
      rw [wp_placed]
      have W4 := W3.setP (pa' := pa + 1) (pl' := false)
      refine hD _ _ (q _ (fun b o e1 e2 h => ?_) W4)
      rw [upd_ne e1]
      refine (upd_ne e1).trans ?_
      refine (upd_ne e2).trans (s1 _ _ h)
    refine ⟨_, pss_cons (ps_if (PW.pt (pw_and (pt_cmpR op_eq (pe_fld (pv 0) rfl) pe_int (nomark _)) (pw_and (pt_cmpR op_ne (pe_fld (pv 0) rfl) pe_str (nomark _)) (pw_and1 (pt_not (pt_val (pe_fld (pv 0) rfl))))))) pss_no pss_nil) pD, ?_⟩
    refine ⟨_, rfl, p, CW, dx, _, _, rfl, W.ob, T.cl, T.no _ (by simp [walkNames]), wk_passed .., rfl, _, rfl, ?_⟩
    by_cases c0 : pa = 0
    · refine ifT (decide_eq_true (by rw [c0]; rfl)) ⟨_, rfl, p, CW, dx, _, _, rfl, W.ob, T.cl, T.no _ (by simp [walkNames]), wk_kind .., rfl, _, rfl, ?_⟩
      by_cases c1 : k = "take"
      · refine ifF (by rw [decide_eq_true (congrArg V.str c1)]; rfl) (iteF ?_)
        exact qD _ fun σ H' h => h
      · refine ifT (by rw [decide_eq_false fun z => c1 (V.str.inj z)]; rfl) ⟨_, rfl, p, CW, dx, _, _, rfl, W.ob, T.cl, T.no _ (by simp [walkNames]), wk_placed .., pl, rfl, ?_⟩
        rw [hpl c0 c1]
        refine iteF ?_
        exact qD _ fun σ H' h => h
    · refine ifF (decide_eq_false fun z => c0 (Int.ofNat.inj (V.int.inj z))) (iteF ?_)
      exact qD _ fun σ H' h => h
end
end K40

namespace Fm
open PySem PySem.Spec PyProof.Rows L2
def isWrM (f : Str) : Bool := inV (.str f) (WR.map fun p => V.str p.1)
def setsM (f : Str) : Bool := inV (.str f) [.str "set", .str "next"]
def stepW (kind : Str) (Ls : List LineM) (nl : Nat) (st : Nat × Bool) (n : Nat) : Option (Nat × Bool) :=
  if (lineAt Ls n).form = "walk" then
    if st.1 < 2 ∧ (st.1 = 0 → kind ≠ "take" → st.2 = true) ∧ behindM 1000 Ls n [((lineAt Ls n).thn, false)] [] [] = some [] then some (st.1 + 1, false) else none
  else if isWrM (lineAt Ls n).form = true then none
  else if setsM (lineAt Ls n).form = true then
    if (lineAt Ls n).form = "set" ∧ (lineAt Ls n).words.length = 2 then
      if st.1 = nl then some st
      else if st = (0, false) ∧ kind ≠ "take" ∧ (lineAt Ls n).words = (["at", "first"] : List Str) then some (0, true) else none
    else none
  else some st
def runW (kind : Str) (Ls : List LineM) (nl : Nat) : List Nat → Nat × Bool → Bool
  | [], _ => true
  | n :: r, st => match stepW kind Ls nl st n with
    | none => false
    | some st' => runW kind Ls nl r st'
end Fm
namespace K40
open PySem PySem.Spec PyProof.Rows L2 Fm PySem.RingX
def elB : Stmt → List Stmt | .If _ _ e _ => e | _ => []
def quietM (kind : Str) (Ls : List LineM) (way : List Nat) : Prop := runW kind Ls (way.filter (walkB Ls)).length way (0, false) = true ∧ ∀ n ∈ way, 1 ≤ n ∧ n ≤ Ls.length
section
variable {P : Program} {w : World} {K : PySem.W.Frag} {mg : Str → Option Value} {base : Heap}
structure WalkC (P : Program) (w : World) (K : PySem.W.Frag) (mg : Str → Option Value) (base : Heap) (C CW : Addr) : Prop where
  t : ClsT K mg CW "Walk" walkNames
  mkr : ∃ f fd, Mk K CW f ∧ FnOk P w K mg base CX0 1 f fd ["self", "kind", "program", "way"] (spWalkI K C CW) ∧ L2.Binds K fd ["self", "kind", "program", "way"] []
  bl : ∃ f fd, Meth K CW "is_behind_loops" f ∧ FnOk P w K mg base CX0 1 f fd ["self"] (spBehindL CW) ∧ L2.Binds K fd ["self"] []
  ml : ∃ f fd, Meth K CW "meet_loop" f ∧ FnOk P w K mg base CX0 2 f fd ["self", "number"] (spMLoop K C CW) ∧ L2.Binds K fd ["self", "number"] []
  me : ∃ f fd, Meth K CW "meet_early_setting" f ∧ FnOk P w K mg base CX0 2 f fd ["self", "number", "line"] (spEarly K C CW) ∧ L2.Binds K fd ["self", "number", "line"] []
  mt : ∃ f fd, Meth K CW "meet_late_setting" f ∧ FnOk P w K mg base CX0 1 f fd ["self", "number", "line"] (spLate K C CW) ∧ L2.Binds K fd ["self", "number", "line"] []
def nRO : List Str := ["kind", "program", "way", "walk", "write_forms", "number", "line", "name", "_"]
def spRO (K : PySem.W.Frag) (C : Addr) : Sp := fun vs H Q _ => ∃ (k : Str) (t wy : Addr) (ps : List Addr) (Ls : List LineM) (way : List Nat), vs = [.str k, .ref t, .ref wy] ∧ SqT K H t (ps.map V.ref) ∧ Objs K C H ps Ls ∧ H wy = some (.lst (intL way)) ∧ quietM k Ls way ∧ way.length ≤ 100000 ∧
  ∀ (r : Addr) (H' : Hp), H r = none → Same H H' → H' r = some (.lst []) → Q (.ref r) H'
theorem scRO : FnScope nRO ["kind", "program", "way"] (defScope s_refused_on) := ⟨rfl, rfl, rfl, by decide +kernel, rfl, by decide +kernel, by decide +kernel⟩
/-- behind i numbers -/
structure InvR (K : PySem.W.Frag) (C CW : Addr) (k : Str) (Ls : List LineM) (way : List Nat) (H H' : Hp) (p dx t l d r wf : Addr) (i : Nat) (st : Nat × Bool) : Prop where
  sm : Same H H'
  wk : ∃ kvs, kvs.length ≤ i ∧ WalkAt CW H' p dx k t l d r st.1 st.2 (way.filter (walkB Ls)) kvs
  wf : H' wf = some (.lst (WR.map fun p => V.str p.1))
  run : runW k Ls (way.filter (walkB Ls)).length (way.drop i) st = true
theorem ok_refOn {C CW : Addr} (R : Raw K mg "refused_on" s_refused_on ["kind", "program", "way"]) (F0 : TopF K w mg) (TL : ClsT K mg C "Line" lineNames) (W : WalkC P w K mg base C CW) : Def P w K mg base CX0 "refused_on" 3 ["kind", "program", "way"] (spRO K C) := by
  obtain ⟨T, ⟨fI, dI, M, GI, bI⟩, ⟨fB, dB, mB, GB_, bB⟩, ⟨fL, dL, mL, GL, bL⟩, ⟨fE, dE, mE, GE, bE⟩, ⟨fT, dT, mT, GT, bT⟩⟩ := W
  obtain ⟨aW, gW, hW⟩ := F0.writes
  refine R.def fun f fd F => F.ok scRO (fun vs H Q E h => ?_) (fun cdv A outer s H vs Q E hr h => ?_)
  · obtain ⟨k, t, wy, ps, Ls, way, rfl, _⟩ := h
    rfl
  · obtain ⟨k, t, wy, ps, Ls, way, rfl, sq, ob, hwy, ⟨hrun, hn⟩, hl, kk⟩ := h
    have pl : ps.length = Ls.length := ob.len
    have hr1 : Room 1 _ := hr.mono (by decide)
    have hr2 : Room (1 + 1) _ := hr.mono (by decide)
    -- a setting
    obtain ⟨tC, pC, qC⟩ : ∃ tC, PSs (cxOf CX0 P w K mg base nRO "refused_on" (defScope s_refused_on) f cdv A outer s H E).nox (ifB (nthS (elB (nthS (elB (nthS (forB (nthS (defBody s_refused_on) 2)) 1)) 0)) 0)) tC ∧
        ∀ (D : Ends) (p dx l d r wf q : Addr) (n i : Nat) (st st' : Nat × Bool) (H1 : Hp), H p = none → H d = none → H r = none → wf ≠ p → wf ≠ d → InvR K C CW k Ls way H H1 p dx t l d r wf i st → way[i]? = some n → i < 100000 → LineAt K C H1 q (lineAt Ls n) → (lineAt Ls n).form = "set" → (lineAt Ls n).words.length = 2 →
          (st.1 = (way.filter (walkB Ls)).length ∧ st' = st ∨ st.1 ≠ (way.filter (walkB Ls)).length ∧ st = (0, false) ∧ k ≠ "take" ∧ (lineAt Ls n).words = (["at", "first"] : List Str) ∧ st' = (0, true)) → runW k Ls (way.filter (walkB Ls)).length (way.drop (i + 1)) st' = true →
          (∀ H2, InvR K C CW k Ls way H H2 p dx t l d r wf (i + 1) st' → D.nx [some (.str k), some (.ref t), some (.ref wy), some (.ref p), some (.ref wf), some (.int n), some (.ref q), none, none] H2) →
          tC D [some (.str k), some (.ref t), some (.ref wy), some (.ref p), some (.ref wf), some (.int n), some (.ref q), none, none] H1 := by
      refine ⟨_, pss_one (ps_if (pt_val (pe_meth0 (pv 3) T.cl mB GB_ hr1 bB .nil pass0)) (pss_one (ps_expr (pe_meth (pv 3) T.cl mT GT hr1 bT .nil pass0 (pa_cons (pv 5) (pa_cons (pv 6) pa_nil)))))
        (pss_one (ps_expr (pe_meth (pv 3) T.cl mE GE hr2 bE .nil pass0 (pa_cons (pv 5) (pa_cons (pv 6) pa_nil)))))), ?_⟩
      intro D p dx l d r wf q n i st st' H1 p0 d0 r0 np nd I hi hi2 la hf hw2 hst hrun' next
      obtain ⟨sm, ⟨kvs, hk, Wk⟩, hwf, _⟩ := I
      refine ⟨_, rfl, p, dx, _, rfl, Wk.ob, wk_no _ _ _ _ _ _ _ (by decide +kernel), p, dx, k, t, l, d, r, st.1, st.2, _, kvs, rfl, Wk, _, rfl, ?_⟩
      rcases hst with ⟨c, rfl⟩ | ⟨c, e1, hkt, hw1, rfl⟩
      · obtain ⟨x, y, hxy⟩ : ∃ x y, (lineAt Ls n).words = [x, y] := by
          match hz : (lineAt Ls n).words, hw2 with
          | [x, y], _ => exact ⟨x, y, rfl⟩
        refine ifT (decide_eq_true c) ⟨_, rfl, p, dx, _, rfl, Wk.ob, wk_no _ _ _ _ _ _ _ (by decide +kernel), _, rfl, _, rfl, p, dx, k, t, l, d, r, _, _, _, kvs, q, n, _, x, y, rfl, Wk, by omega, la, hf, hxy, fun kvs' hkv => next _ ⟨sm.updl d0, ⟨kvs', by omega, Wk.setD⟩, ?_, hrun'⟩⟩
        rw [upd_ne nd]; exact hwf
      · subst e1
        refine ifF (decide_eq_false c) ⟨_, rfl, p, dx, _, rfl, Wk.ob, wk_no _ _ _ _ _ _ _ (by decide +kernel), _, rfl, _, rfl, p, dx, k, t, l, d, r, _, kvs, q, n, _, rfl, Wk, hkt, la, hf, hw1, next _ ⟨sm.updl p0, ⟨kvs, by omega, Wk.setP (pa' := 0) (pl' := true)⟩, ?_, hrun'⟩⟩
        rw [upd_ne np]; exact hwf
    refine ⟨_, pss_cons (ps_set (i := 3) scRO.nd rfl (Or.inl rfl) (pe_make M GI hr2 (by rfl) T.gC bI .nil pass0 (pa_cons (pv 0) (pa_cons (pv 1) (pa_cons (pv 2) pa_nil)))))
      (pss_cons (ps_setLc (i := 4) (own := [("name", 7), ("_", 8)]) (tt := tYes) rfl scRO.nd rfl rfl (by rfl) (pi_tup (pe_glob (v := .ref aW) (by rfl) gW rfl)) (blkOk_by (own := [("name", 7), ("_", 8)]) (N := nRO) (sc := defScope s_refused_on) (by decide +kernel))
          (fun _ _ _ _ _ => (show PG _ _ (gTup K 2 (gCons (gName 7) (gCons (gName 8) gNil))) from pg_tup rfl (pgs_cons (pg_name (i := 7) scRO.nd rfl (Or.inl rfl)) (pgs_cons (pg_name (i := 8) scRO.nd rfl (Or.inl rfl)) pgs_nil)))) (fun _ _ _ _ _ => pts_nil) (fun _ _ _ _ _ => pv 7))
      (pss_cons (ps_for PassesOwn.never rfl (pi_list (pv 2)) (pg_name (i := 5) scRO.nd rfl (Or.inl rfl))
        (pss_cons (ps_set (i := 6) scRO.nd rfl (Or.inl rfl) (pe_ix ix_tup (pv 1) (pe_op op_sub (pv 5) pe_int) (fun _ _ => rfl)))
        (pss_one (ps_if (pt_cmpR op_eq (pe_fld (pv 6) rfl) pe_str (nomark _)) (pss_one (ps_expr (pe_meth (pv 3) T.cl mL GL hr2 bL .nil pass0 (pa_cons (pv 5) pa_nil))))
          (pss_one (ps_if (pt_cmpR op_in_seq (pe_fld (pv 6) rfl) (pv 4) (by rfl)) pss_no
            (pss_one (ps_if (pt_cmpR op_in_seq (pe_fld (pv 6) rfl) (pe_tup (pa_cons pe_str (pa_cons pe_str pa_nil))) (by rfl)) pC pss_nil))))))))
      (pss_one (ps_ret (pe_fld (pv 3) rfl))))), ?_⟩
    refine ⟨_, rfl, _, rfl, _, rfl, fun p dx hp hdx hne => ?_⟩
    have e1 : Same H (upd (upd H dx (.own p)) p (.ins CW dx [])) := fun b o h => by
      rw [upd_ne (ne_of_none h hp), upd_ne (ne_of_none h hdx)]; exact h
    refine ⟨p, dx, k, t, wy, ps, Ls, way, rfl, upd_same, e1.sqT sq, ob.same e1, e1 _ _ hwy, hn, hl, fun l d r H1 s1 l0 d0 r0 W1 => ⟨rfl, ?_⟩⟩
    have sm1 : Same H H1 := fun b o h => s1 b o (ne_of_none h hp) (e1 _ _ h)
    have back : ∀ {b : Addr}, (upd (upd H dx (.own p)) p (.ins CW dx [])) b = none → H b = none := fun {b} z => by
      cases q : H b with
      | none => rfl
      | some u => rw [e1 _ _ q] at z; cases z
    have d0 := back d0
    have r0 := back r0
    obtain ⟨aw, xs, ew, sqw, pxw⟩ := dp_tup (hW H1)
    cases ew
    have xl := pxw.length
    rw [List.length_map] at xl
    refine ⟨aW, rfl, ⟨_, sqw⟩, fun wf hwf => lc_tup (K := K) (a := aW) (xs := xs) (fun i H' => Same H1 H' ∧ H' wf = some (.lst ((WR.take i).map fun p => V.str p.1))) ⟨same_upd hwf, upd_same⟩ (fun i H' _ h => h.1.sqT sqw) ?_ ?_⟩
    · rintro i x H2 hx ⟨s2, h2⟩
      obtain ⟨dd, hdi, dxx⟩ := dp_at pxw hx
      rw [List.getElem?_map] at hdi
      obtain ⟨pr, hpr, rfl⟩ := Option.map_eq_some_iff.mp hdi
      obtain ⟨tt, ts, rfl, sqt, dt⟩ := dp_tup dxx
      cases dt with
      | cons g1 dt => cases dt with
        | cons g2 dt =>
          cases dt
          cases dp_str g1
          cases dp_str g2
          refine ⟨tt, _, rfl, s2.sqT sqt, rfl, _, _, rfl, _, _, rfl, rfl, rfl, _, rfl, _, h2, ?_, s2.updl hwf, ?_⟩
          · rw [List.length_map, List.length_take, sizeLine_eq]
            have : WR.length = 6 := rfl
            omega
          · rw [upd_same, take_more hpr, List.map_append]; rfl
    · rintro H2 ⟨s2, h2⟩
      rw [xl, List.take_length] at h2
      have sm2 := sm1.trans s2
      have W2 := W1.same s2
      have wfp : wf ≠ p := (ne_of_none W1.ob hwf).symm
      have wfd : wf ≠ d := (ne_of_none W1.hd hwf).symm
      have wfr : wf ≠ r := (ne_of_none W1.hr hwf).symm
      refine ⟨_, rfl, wy, rfl, ⟨_, sm2.seq (SqL.of hwy)⟩, for_list (K := K) (a := wy) (xs := intL way) (fun i σ H' => ∃ (x5 x6 : Option V) (st : Nat × Bool), σ = [some (.str k), some (.ref t), some (.ref wy), some (.ref p), some (.ref wf), x5, x6, none, none] ∧ InvR K C CW k Ls way H H' p dx t l d r wf i st) ⟨_, _, (0, false), rfl, sm2, ⟨[], Nat.le_refl _, W2⟩, h2, by rw [List.drop_zero]; exact hrun⟩ (fun i σ H' _ ⟨_, _, _, _, I⟩ => SqL.of (I.sm _ _ hwy)) ?_ ?_⟩
      · rintro i y σ H3 hy ⟨x5, x6, st, rfl, I⟩
        rw [List.getElem?_map] at hy
        obtain ⟨n, hn', rfl⟩ := Option.map_eq_some_iff.mp hy
        obtain ⟨n1, n2⟩ := hn n (List.mem_of_getElem? hn')
        have hil : i < way.length := (List.getElem?_eq_some_iff.mp hn').1
        have dr : way.drop i = n :: way.drop (i + 1) := by rw [List.drop_eq_getElem_cons hil, (List.getElem?_eq_some_iff.mp hn').2]
        obtain ⟨sm, ⟨kvs, hk, Wk⟩, hwf', hrn⟩ := id I
        obtain ⟨q, hq, _, la⟩ := (ob.same sm).at_ n1 n2
        obtain ⟨dl, vw, vt, hln, dw, dt⟩ := id la
        have at1 : atI (ps.map V.ref) ((n : Int) - 1) = some (.ref q) := by
          rw [show (n : Int) - 1 = ((n - 1 : Nat) : Int) by omega]
          exact atI_nat (by rw [List.getElem?_map, hq]; rfl)
        rw [dr] at hrn
        unfold runW at hrn
        refine ⟨_, rfl, _, rfl, _, _, rfl, rfl, t, _, _, .ref q, rfl, rfl, sm.sqT sq, at1, ?_⟩
        refine ⟨_, rfl, q, C, dl, _, _, rfl, hln, TL.cl, TL.no _ (by simp [lineNames]), ln_form .., rfl, _, rfl, ?_⟩
        by_cases c1 : (lineAt Ls n).form = "walk"
        · rw [stepW, if_pos c1] at hrn
          by_cases c2 : st.1 < 2 ∧ (st.1 = 0 → k ≠ "take" → st.2 = true) ∧ behindM 1000 Ls n [((lineAt Ls n).thn, false)] [] [] = some []
          · rw [if_pos c2] at hrn
            refine ifT (decide_eq_true (congrArg V.str c1)) ⟨_, rfl, p, dx, _, rfl, Wk.ob, wk_no _ _ _ _ _ _ _ (by decide +kernel), _, rfl, p, dx, k, t, l, d, r, st.1, st.2, _, kvs, n, ps, Ls, 1000, rfl, Wk, sm.sqT sq, ob.same sm, n1, n2, c2.1, c2.2.1, by decide, c2.2.2, fun H4 s4 W4 => ?_⟩
            exact ⟨_, _, _, rfl, fun b o h => s4 b o (ne_of_none h hp) (ne_of_none h r0) (sm _ _ h), ⟨kvs, by omega, W4⟩, s4 _ _ wfp wfr hwf', hrn⟩
          · rw [if_neg c2] at hrn; cases hrn
        · rw [stepW, if_neg c1] at hrn
          refine ifF (decide_eq_false fun z => c1 (V.str.inj z)) ?_
          refine ⟨_, rfl, q, C, dl, _, _, rfl, hln, TL.cl, TL.no _ (by simp [lineNames]), ln_form .., _, rfl, wf, _, rfl, .inl (SqL.of hwf'), rfl, by rfl, _, rfl, ?_⟩
          show if isWrM (lineAt Ls n).form = true then _ else _
          cases c2 : isWrM (lineAt Ls n).form with
          | true => rw [c2, if_pos rfl] at hrn; cases hrn
          | false =>
            rw [c2, if_neg (by decide)] at hrn
            refine iteF ⟨_, rfl, q, C, dl, _, _, rfl, hln, TL.cl, TL.no _ (by simp [lineNames]), ln_form .., (by show 2 ≤ sizeLine; decide), fun u hu => ?_⟩
            have s5 := same_upd (o := .tup [V.str "set", V.str "next"]) hu
            refine ⟨u, _, rfl, .inr (SqT.of upd_same), rfl, by rfl, _, rfl, ?_⟩
            have I5 : InvR K C CW k Ls way H (upd H3 u (.tup [V.str "set", V.str "next"])) p dx t l d r wf i st := ⟨sm.trans s5, ⟨kvs, hk, Wk.same s5⟩, s5 _ _ hwf', I.run⟩
            have la5 := la.same s5
            generalize upd H3 u (.tup [V.str "set", V.str "next"]) = H5 at I5 la5 ⊢
            show if setsM (lineAt Ls n).form = true then _ else _
            cases c3 : setsM (lineAt Ls n).form with
            | false =>
              rw [c3, if_neg (by decide)] at hrn
              obtain ⟨sm5, ⟨kv5, hk5, Wk5⟩, hw5, _⟩ := I5
              exact iteF ⟨_, _, _, rfl, sm5, ⟨kv5, by omega, Wk5⟩, hw5, hrn⟩
            | true =>
              rw [c3, if_pos rfl] at hrn
              by_cases c4 : (lineAt Ls n).form = "set" ∧ (lineAt Ls n).words.length = 2
              · rw [if_pos c4] at hrn
                refine iteT ?_
                by_cases c5 : st.1 = (way.filter (walkB Ls)).length
                · rw [if_pos c5] at hrn
                  exact qC _ p dx l d r wf q n i st st H5 hp d0 r0 wfp wfd I5 hn' (by omega) la5 c4.1 c4.2 (.inl ⟨c5, rfl⟩) hrn fun H6 I6 => ⟨_, _, _, rfl, I6⟩
                · rw [if_neg c5] at hrn
                  by_cases c6 : st = (0, false) ∧ k ≠ "take" ∧ (lineAt Ls n).words = (["at", "first"] : List Str)
                  · rw [if_pos c6] at hrn
                    exact qC _ p dx l d r wf q n i st (0, true) H5 hp d0 r0 wfp wfd I5 hn' (by omega) la5 c4.1 c4.2 (.inr ⟨c5, c6.1, c6.2.1, c6.2.2, rfl⟩) hrn fun H6 I6 => ⟨_, _, _, rfl, I6⟩
                  · rw [if_neg c6] at hrn; cases hrn
              · rw [if_neg c4] at hrn; cases hrn
      · rintro σ H3 ⟨x5, x6, st, rfl, I⟩
        obtain ⟨sm, ⟨kvs, hk, Wk⟩, hwf', hrn⟩ := I
        exact ⟨_, rfl, p, CW, dx, _, _, rfl, Wk.ob, T.cl, T.no _ (by simp [walkNames]), wk_refused .., kk r H3 r0 sm Wk.hr⟩
end
end K40

namespace K40
open PySem PySem.Spec PyProof.Rows L2 Fm PySem.RingX
/-- nothing is refused -/
structure QuietM (k x : Str) (ts : List Str) (Ls : List LineM) : Prop where
  bar : barsM k x ts = []
  ways : ∃ n ways, n ≤ 100000 ∧ waysM n Ls [([], 1)] [] = some ways ∧ ∀ wy ∈ ways, quietM k Ls wy ∧ wy.length ≤ 100000
section
variable {P : Program} {w : World} {K : PySem.W.Frag} {mg : Str → Option Value} {base : Heap}
def spRL (K : PySem.W.Frag) (C : Addr) : Sp := fun vs H Q _ => ∃ (k x : Str) (a t : Addr) (ts : List Str) (ps : List Addr) (Ls : List LineM), vs = [.str k, .str x, .ref a, .ref t] ∧ SqL K H a (ts.map V.str) ∧ (∀ t ∈ ts, Asc t) ∧ ts.length ≤ 1000 ∧ SqT K H t (ps.map V.ref) ∧ Objs K C H ps Ls ∧ QuietM k x ts Ls ∧
  ∀ (r : Addr) (H' : Hp), H r = none → Same H H' → H' r = some (.lst []) → Q (.ref r) H'
def nRL : List Str := ["kind", "way", "texts", "program", "found", "numbers"]
theorem scRL : FnScope nRL ["kind", "way", "texts", "program"] (defScope s_refused_lines) := ⟨rfl, rfl, rfl, by decide +kernel, rfl, by decide +kernel, by decide +kernel⟩
theorem ok_refL {C : Addr} (R : Raw K mg "refused_lines" s_refused_lines ["kind", "way", "texts", "program"]) (DB : Def P w K mg base CX0 "barred_lines" 2 ["kind", "way", "texts"] (spBarL K)) (DW : Def P w K mg base CX0 "all_ways" 1 ["program"] (spWays K C)) (DR : Def P w K mg base CX0 "refused_on" 3 ["kind", "program", "way"] (spRO K C)) : Def P w K mg base CX0 "refused_lines" 4 ["kind", "way", "texts", "program"] (spRL K C) := by
  obtain ⟨fB, dB, GB_, gB, kB, bB⟩ := DB
  obtain ⟨fW, dW, GW, gW, kW, bW⟩ := DW
  obtain ⟨fR, dR, GR, gR, kR, bR⟩ := DR
  refine R.def fun f fd F => F.ok scRL (fun vs H Q E h => ?_) (fun cdv A outer s H vs Q E hr h => ?_)
  · obtain ⟨k, x, a, t, ts, ps, Ls, rfl, _⟩ := h
    rfl
  · obtain ⟨k, x, a, t, ts, ps, Ls, rfl, sa, ha, hl, sq, ob, ⟨hb, n, ways, hn, hw, hq⟩, kk⟩ := h
    have hr1 : Room 1 _ := hr.mono (by decide)
    have hr2 : Room 2 _ := hr.mono (by decide)
    refine ⟨_, pss_cons (ps_set (i := 4) scRL.nd rfl (Or.inl rfl) (pe_call GB_ hr2 (by rfl) gB kB bB .nil pass0 (pa_cons (pv 0) (pa_cons (pv 1) (pa_cons (pv 2) pa_nil)))))
      (pss_cons (ps_for PassesOwn.never rfl (pi_list (pe_call GW hr1 (by rfl) gW kW bW .nil pass0 (pa_cons (pv 3) pa_nil))) (pg_name (i := 5) scRL.nd rfl (Or.inl rfl))
        (pss_one (ps_expr (pe_bm PySem.F.plainAttrs_list PySem.F.slot_list_extend PySem.F.type_list_extend mt_extend (pv 4) (pa_cons (pe_call GR hr (by rfl) gR kR bR .nil pass0 (pa_cons (pv 0) (pa_cons (pv 3) (pa_cons (pv 5) pa_nil)))) pa_nil)))))
      (pss_one (ps_ret (pv 4)))), ?_⟩
    refine ⟨_, rfl, _, rfl, _, rfl, k, x, a, ts, rfl, sa, ha, hl, fun p H1 hp s1 h1 => ?_⟩
    rw [hb] at h1
    refine ⟨_, rfl, t, ps, Ls, n, ways, rfl, s1.sqT sq, ob.same s1, hn, hw, fun y Y H2 hy s2 h2 eY hY => ?_⟩
    have s12 := s1.trans s2
    have npy : p ≠ y := ne_of_none h1 hy
    have hy0 : H y = none := by
      cases e : H y with
      | none => rfl
      | some u => rw [s1 _ _ e] at hy; cases hy
    refine ⟨y, rfl, ⟨_, SqL.of h2⟩, for_list (K := K) (a := y) (xs := Y.map fun q => V.ref q.1) (fun i σ H' => (∃ x5, σ = [some (.str k), some (.str x), some (.ref a), some (.ref t), some (.ref p), x5]) ∧ Same H H' ∧ H' p = some (.lst []) ∧ H' y = some (.lst (Y.map fun q => V.ref q.1)) ∧ ∀ q ∈ Y, H' q.1 = some (.lst (intL q.2)) ∧ q.1 ≠ p) ⟨⟨_, rfl⟩, s12, s2 _ _ h1, h2, ?_⟩ (fun i σ H' _ h => SqL.of h.2.2.2.1) ?_ ?_⟩
    · intro q hq'
      obtain ⟨g1, g2⟩ := hY q hq'
      exact ⟨g1, (ne_of_none h1 g2).symm⟩
    · rintro i z σ H3 hz ⟨⟨x5, rfl⟩, s3, h3, h3y, hY3⟩
      rw [List.getElem?_map] at hz
      obtain ⟨q, hq', rfl⟩ := Option.map_eq_some_iff.mp hz
      have qm := List.mem_of_getElem? hq'
      obtain ⟨g1, g2⟩ := hY3 q qm
      have qw : q.2 ∈ ways := by rw [← eY]; exact List.mem_map.mpr ⟨q, qm, rfl⟩
      obtain ⟨w1, w2⟩ := hq q.2 qw
      refine ⟨_, rfl, .inl ⟨rfl, _, SqL.of h3⟩, _, rfl, _, rfl, _, rfl, k, t, q.1, ps, Ls, q.2, rfl, s3.sqT sq, ob.same s3, g1, w1, w2, fun r H4 hr4 s4 h4 => ?_⟩
      refine ⟨p, r, _, _, rfl, rfl, s4 _ _ h3, h4, (by show 0 + 0 ≤ sizeLine; decide), ⟨_, rfl⟩, ?_, upd_same, ?_, ?_⟩
      · exact (s3.trans s4).updl (by
          cases e : H p with
          | none => rfl
          | some u => rw [e] at hp; cases hp)
      · rw [upd_ne npy.symm]; exact s4 _ _ h3y
      · intro q' hq2
        obtain ⟨g1', g2'⟩ := hY3 q' hq2
        exact ⟨by rw [upd_ne g2']; exact s4 _ _ g1', g2'⟩
    · rintro σ H3 ⟨⟨x5, rfl⟩, s3, h3, _⟩
      exact ⟨_, rfl, kk p H3 hp s3 h3⟩
end
end K40

namespace K40
open PySem PySem.Spec PyProof.Rows L2 Fm PySem.RingX
/-- the errors that a code may raise -/
structure EXA (P : Program) (K : PySem.W.Frag) (mg : Str → Option Value) (CK CY CL CM fK fY fL fM : Addr) : Prop where
  kind : ExTxt P K mg CK fK "BadKind" ["kind"]
  way : ExTxt P K mg CY fY "BadWay" ["way"]
  line : ExTxt P K mg CL fL "BadLine" ["line"]
  many : ExTxt P K mg CM fM "TooMany" ["what", "many", "most"]
def Rz3 (C : Addr) (a b c : V) (H : Hp) (E : XK) : Prop := ∀ H' dd, Same H H' → H' dd = none → E (.ref C) (some dd) (upd H' dd (.xd (xdl ["what", "many", "most"] [a, b, c])))
def cdF (k x text : Str) (tt tp : Addr) : List (Str × V) := [("kind", .str k), ("way", .str x), ("text", .str text), ("texts", .ref tt), ("program", .ref tp)]
def codeNames : List Str := ["kind", "way", "text", "texts", "program"]
theorem cd_made (k x text : Str) (tt tp : Addr) : putF "program" (.ref tp) (putF "texts" (.ref tt) (putF "text" (.str text) (putF "way" (.str x) (putF "kind" (.str k) [])))) = cdF k x text tt tp := by kernel_rfl
theorem cd_kind (k x text : Str) (tt tp : Addr) : (cdF k x text tt tp).lookup ("kind" : Str) = some (.str k) := by kernel_rfl
theorem cd_way (k x text : Str) (tt tp : Addr) : (cdF k x text tt tp).lookup ("way" : Str) = some (.str x) := by kernel_rfl
theorem cd_text (k x text : Str) (tt tp : Addr) : (cdF k x text tt tp).lookup ("text" : Str) = some (.str text) := by kernel_rfl
theorem cd_texts (k x text : Str) (tt tp : Addr) : (cdF k x text tt tp).lookup ("texts" : Str) = some (.ref tt) := by kernel_rfl
theorem cd_no (k x text : Str) (tt tp : Addr) {m : Str} (h : codeNames.all (fun x => !(decide (m = x))) = true) : (cdF k x text tt tp).lookup m = none := by
  have h2 : ∀ x ∈ codeNames, m ≠ x := fun x hx => by
    have := List.all_eq_true.mp h x hx
    simpa using this
  unfold cdF
  rw [List.lookup_eq_none_iff]
  intro p hp
  have : p.1 ∈ codeNames := by
    simp only [List.mem_cons, List.mem_nil_iff, or_false] at hp
    rcases hp with rfl | rfl | rfl | rfl | rfl <;> simp [codeNames]
  simpa using h2 _ this
section
variable {P : Program} {w : World} {K : PySem.W.Frag} {mg : Str → Option Value} {base : Heap}
/-- what comes of a text -/
def TextC (CL CM : Addr) (k x text : Str) (H : Hp) (E : XK) (fin : Prop) : Prop :=
  (60 < (linesOfM text).length ∧ Rz3 CM (.str "lines") (.int (linesOfM text).length) (.int 60) H E) ∨
  ((linesOfM text).length ≤ 60 ∧ ∃ (n : Nat) (r : Except Nat (List LineM)), programM n (linesOfM text) = some r ∧
    ((∃ m : Nat, r = .error m ∧ Rz CL "line" (.int m) H E) ∨
     (∃ Ls, r = .ok Ls ∧ ((7 < ifsM Ls ∧ Rz3 CM (.str "ifs") (.int (ifsM Ls)) (.int 7) H E) ∨ (ifsM Ls ≤ 7 ∧ QuietM k x (linesOfM text) Ls ∧ fin)))))
/-- what comes of a kind, a way and a text -/
def CodeC (K : PySem.W.Frag) (CK CY CL CM : Addr) (vk vw : V) (text : Str) (H : Hp) (E : XK) (fin : Str → Str → Prop) : Prop :=
  (((∃ k, vk = .str k ∧ kindM k = false) ∨ NotStr K H vk) ∧ Rz CK "kind" vk H E) ∨
  (∃ k, vk = .str k ∧ kindM k = true ∧
    ((((∃ x, vw = .str x ∧ wayM x = false) ∨ NotStr K H vw) ∧ Rz CY "way" vw H E) ∨
     (∃ x, vw = .str x ∧ wayM x = true ∧ Asc text ∧ text.length ≤ 90000 ∧ text.length ≤ 900 * 60 ∧ (linesOfM text).length ≤ 1000 ∧ TextC CL CM k x text H E (fin k x))))
def nCI : List Str := ["self", "kind", "way", "text", "texts", "program", "ifs", "refused"]
def spCodeI (K : PySem.W.Frag) (CC CK CY CL CM : Addr) : Sp := fun vs H Q E => ∃ (p dx : Addr) (vk vw : V) (text : Str), vs = [.ref p, vk, vw, .str text] ∧ H p = some (.ins CC dx []) ∧
  CodeC K CK CY CL CM vk vw text H E fun k x => ∀ (tt tp : Addr) (H' : Hp), (∀ b o, b ≠ p → H b = some o → H' b = some o) → H' p = some (.ins CC dx (cdF k x text tt tp)) → H' tt = some (.tup ((linesOfM text).map V.str)) → Q .non H'
theorem scCI : FnScope nCI ["self", "kind", "way", "text"] (defScope s_Code_init) := ⟨rfl, rfl, rfl, by decide +kernel, rfl, by decide +kernel, by decide +kernel⟩
theorem asc_parts {x : Str} (h : Asc x) (l : x.length ≤ 90000) : ∀ t ∈ linesOfM x, Asc t ∧ t.length ≤ 90000 := by
  unfold linesOfM
  split
  · intro t ht; cases ht
  · intro t ht
    obtain ⟨h1, h2⟩ := (split_parts (sep := "\n") h (by decide +kernel)).1 t ht
    exact ⟨h1, by omega⟩
theorem linkAll_len {k : Nat} : ∀ (m n : Nat) (Ls Lf : List LineM), linkAll k m n Ls = some Lf → Lf.length = Ls.length
  | 0, _, Ls, Lf, h => by cases h; rfl
  | m + 1, n, Ls, Lf, h => by
    unfold linkAll at h
    cases e : linkM k Ls n with
    | none => rw [e] at h; cases h
    | some L2 =>
      rw [e] at h
      rw [linkAll_len m (n + 1) L2 Lf h, linkM_len e]
theorem programM_len {n : Nat} {ts : List Str} {Ls : List LineM} (h : programM n ts = some (.ok Ls)) : Ls.length = ts.length := by
  unfold programM at h
  cases e : linesM ts with
  | error m => rw [e] at h; cases h
  | ok L0 =>
    rw [e] at h
    dsimp only at h
    cases e2 : linkAll n L0.length 1 L0 with
    | none => rw [e2] at h; cases h
    | some Lf =>
      rw [e2] at h
      cases h
      rw [linkAll_len _ _ _ _ e2, linesM_len e]
theorem ok_codeI {f C CC CK CY CL CM fK fY fL fM : Addr} {fd : FuncData} (F : Fun K "__init__" "Code.__init__" s_Code_init f fd) (T : GB mg) (TC : TopC K mg) (TT : ClsT K mg CC "Code" codeNames) (X : EXA P K mg CK CY CL CM fK fY fL fM)
    (DK : Def P w K mg base CX0 "is_kind" 1 ["value"] (spStrIn K kindM)) (DY : Def P w K mg base CX0 "is_way" 1 ["value"] (spStrIn K wayM)) (DL : Def P w K mg base CX0 "lines_of" 1 ["text"] spLinesOf) (DP : Def P w K mg base (L2.CX P w) "read_program" 9 ["texts"] (spProg K C CL)) (DI : Def P w K mg base CX0 "outer_ifs" 1 ["program"] (spIfs K C)) (DR : Def P w K mg base CX0 "refused_lines" 4 ["kind", "way", "texts", "program"] (spRL K C)) :
    FnOk P w K mg base (L2.CX P w) 10 f fd ["self", "kind", "way", "text"] (spCodeI K CC CK CY CL CM) := by
  obtain ⟨fk, dk, Gk, gk, kk, bk⟩ := DK
  obtain ⟨fy, dy, Gy, gy, ky, by_⟩ := DY
  obtain ⟨fl, dl, Gl_, gl, kl, bl⟩ := DL
  obtain ⟨fp, dp, Gp, gp, kp, bp⟩ := DP
  obtain ⟨fi, di, Gi, gi, ki, bi⟩ := DI
  obtain ⟨fr, dr, Gr, gr, kr, br⟩ := DR
  obtain ⟨t60, g60⟩ := TC.lines
  obtain ⟨t7, g7⟩ := TC.ifs
  refine F.okX scCI (fun vs H Q E h => ?_) (fun cdv A outer s H vs Q E hr h => ?_)
  · obtain ⟨p, dx, vk, vw, text, rfl, _⟩ := h
    rfl
  · obtain ⟨p, dx, vk, vw, text, rfl, hp, h⟩ := h
    have hr1 : Room 1 _ := hr.mono (by decide)
    have hr4 : Room 4 _ := hr.mono (by decide)
    -- the attributes
    obtain ⟨tE, pE, qE⟩ : ∃ tE, PSs (cxOf (L2.CX P w) P w K mg base nCI "Code.__init__" (defScope s_Code_init) f cdv A outer s H E) ((defBody s_Code_init).drop 9) tE ∧
        ∀ (D : Ends) (k x text : Str) (pt tp : Addr) (x6 x7 : Option V) (H1 : Hp), H1 p = some (.ins CC dx []) → H1 pt = some (.lst ((linesOfM text).map V.str)) → (∀ b o, b ≠ p → H b = some o → H1 b = some o) →
          (∀ (tt tp : Addr) (H' : Hp), (∀ b o, b ≠ p → H b = some o → H' b = some o) → H' p = some (.ins CC dx (cdF k x text tt tp)) → H' tt = some (.tup ((linesOfM text).map V.str)) → ∀ σ, D.nx σ H') →
          tE D [some (.ref p), some (.str k), some (.str x), some (.str text), some (.ref pt), some (.ref tp), x6, x7] H1 := by
      refine ⟨_, PSs.nox (pss_cons (ps_fld (pv 0) (pv 1) rfl) (pss_cons (ps_fld (pv 0) (pv 2) rfl) (pss_cons (ps_fld (pv 0) (pv 3) rfl) (pss_cons (ps_fld (pv 0) (pe_tupleOf (by rfl) T.tup (pv 4)) rfl) (pss_one (ps_fld (pv 0) (pv 5) rfl)))))), ?_⟩
      intro D k x text pt tp x6 x7 H1 h1p h1t old next
      refine ⟨_, rfl, _, rfl, p, CC, dx, _, rfl, h1p, TT.cl, TT.no _ (by simp [codeNames]), lt1000 nil_lt, _, rfl, _, rfl, p, CC, dx, _, rfl, upd_same, TT.cl, TT.no _ (by simp [codeNames]), lt1000 (putF_lt nil_lt), _, rfl, _, rfl, p, CC, dx, _, rfl, upd_same, TT.cl, TT.no _ (by simp [codeNames]), lt1000 (putF_lt (putF_lt nil_lt)), ?_⟩
      rw [upd_upd, upd_upd]
      have tp_ : pt ≠ p := ne_of h1t h1p (fun z => nomatch z)
      refine ⟨_, rfl, .inl ⟨pt, _, rfl, SqL.of (by rw [upd_ne tp_]; exact h1t), fun tt htt => ?_⟩⟩
      have tn : tt ≠ p := by
        rintro rfl
        rw [upd_same] at htt; cases htt
      have tn1 : H1 tt = none := by rw [upd_ne tn] at htt; exact htt
      refine ⟨_, rfl, p, CC, dx, _, rfl, (same_upd htt) _ _ upd_same, TT.cl, TT.no _ (by simp [codeNames]), lt1000 (putF_lt (putF_lt (putF_lt nil_lt))), _, rfl, _, rfl, p, CC, dx, _, rfl, upd_same, TT.cl, TT.no _ (by simp [codeNames]), lt1000 (putF_lt (putF_lt (putF_lt (putF_lt nil_lt)))), ?_⟩
      rw [upd_upd, cd_made]
      refine next tt tp _ (fun b o e q => ?_) upd_same ?_ _
      · have q1 := old b o e q
        rw [upd_ne e, upd_ne (ne_of_none q1 tn1), upd_ne e]
        exact q1
      · rw [upd_ne tn, upd_same]
    refine ⟨_, pss_cons (ps_if (pt_not (pt_val (pe_call Gk hr1 (by rfl) gk kk bk .nil pass0 (pa_cons (pv 1) pa_nil)))) (pss_one (ps_raiseX rfl X.kind hr1 (takes_of rfl rfl rfl rfl) (pa_cons (pv 1) pa_nil))) pss_nil)
      (pss_cons (ps_if (pt_not (pt_val (pe_call Gy hr1 (by rfl) gy ky by_ .nil pass0 (pa_cons (pv 2) pa_nil)))) (pss_one (ps_raiseX rfl X.way hr1 (takes_of rfl rfl rfl rfl) (pa_cons (pv 2) pa_nil))) pss_nil)
      (pss_cons (ps_set (i := 4) scCI.nd rfl (Or.inl rfl) (pe_call Gl_ hr1 (by rfl) gl kl bl .nil pass0 (pa_cons (pv 3) pa_nil)))
      (pss_cons (ps_if (pt_cmpR op_gt (pe_callB call_len_seq (by rfl) T.len PySem.boot_len (pa_cons (pv 4) pa_nil)) (pe_glob (v := .int 60) (by rfl) g60 ⟨t60, rfl⟩) (nomark _)) (pss_one (ps_raiseX rfl X.many hr1 (takes_of rfl rfl rfl rfl) (pa_cons pe_str (pa_cons (pe_callB call_len_seq (by rfl) T.len PySem.boot_len (pa_cons (pv 4) pa_nil)) (pa_cons (pe_glob (v := .int 60) (by rfl) g60 ⟨t60, rfl⟩) pa_nil))))) pss_nil)
      (pss_cons (ps_set (i := 5) scCI.nd rfl (Or.inl rfl) (pe_call (E := E) Gp hr (by rfl) gp kp bp .nil (passes_call (takes_of rfl rfl rfl rfl) (fun _ _ _ _ z => z)) (pa_cons (pv 4) pa_nil)))
      (pss_cons (ps_set (i := 6) scCI.nd rfl (Or.inl rfl) (pe_call Gi hr1 (by rfl) gi ki bi .nil pass0 (pa_cons (pv 5) pa_nil)))
      (pss_cons (ps_if (pt_cmpR op_gt (pv 6) (pe_glob (v := .int 7) (by rfl) g7 ⟨t7, rfl⟩) (nomark _)) (pss_one (ps_raiseX rfl X.many hr1 (takes_of rfl rfl rfl rfl) (pa_cons pe_str (pa_cons (pv 6) (pa_cons (pe_glob (v := .int 7) (by rfl) g7 ⟨t7, rfl⟩) pa_nil))))) pss_nil)
      (pss_cons (ps_set (i := 7) scCI.nd rfl (Or.inl rfl) (pe_call Gr hr4 (by rfl) gr kr br .nil pass0 (pa_cons (pv 1) (pa_cons (pv 2) (pa_cons (pv 4) (pa_cons (pv 5) pa_nil))))))
      (pss_cons (ps_if (pt_cmpR op_gt (pe_callB call_len_seq (by rfl) T.len PySem.boot_len (pa_cons (pv 7) pa_nil)) pe_int (nomark _)) pss_no pss_nil)
      pE)))))))), ?_⟩
    rcases h with ⟨bk1, hz⟩ | ⟨k, rfl, hk, h⟩
    · -- no kind
      rcases bk1 with ⟨z, rfl, hz1⟩ | ns
      · refine ⟨_, rfl, .str z, rfl, .inl ⟨z, rfl, kindM z, rfl, ?_⟩⟩
        rw [hz1]
        exact iteT ⟨_, rfl, rfl, fun h => (nomatch h), fun _ dd hd => hz H dd (Same.refl _) hd⟩
      · refine ⟨_, rfl, vk, rfl, .inr ⟨ns, false, rfl, iteT ⟨_, rfl, rfl, fun h => (nomatch h), fun _ dd hd => hz H dd (Same.refl _) hd⟩⟩⟩
    · refine ⟨_, rfl, .str k, rfl, .inl ⟨k, rfl, kindM k, rfl, ?_⟩⟩
      rw [hk]
      refine iteF ?_
      rcases h with ⟨by1, hz⟩ | ⟨x, rfl, hx, ha, hl, hl2, hl3, h⟩
      · rcases by1 with ⟨z, rfl, hz1⟩ | ns
        · refine ⟨_, rfl, .str z, rfl, .inl ⟨z, rfl, wayM z, rfl, ?_⟩⟩
          rw [hz1]
          exact iteT ⟨_, rfl, rfl, fun h => (nomatch h), fun _ dd hd => hz H dd (Same.refl _) hd⟩
        · refine ⟨_, rfl, vw, rfl, .inr ⟨ns, false, rfl, iteT ⟨_, rfl, rfl, fun h => (nomatch h), fun _ dd hd => hz H dd (Same.refl _) hd⟩⟩⟩
      · refine ⟨_, rfl, .str x, rfl, .inl ⟨x, rfl, wayM x, rfl, ?_⟩⟩
        rw [hx]
        refine iteF ⟨_, rfl, text, rfl, by omega, fun pt hpt => ?_⟩
        have s1 := same_upd (o := .lst ((linesOfM text).map V.str)) hpt
        have t1 : upd H pt (.lst ((linesOfM text).map V.str)) pt = some (.lst ((linesOfM text).map V.str)) := upd_same
        generalize upd H pt (.lst ((linesOfM text).map V.str)) = H1 at *
        refine ⟨_, rfl, pt, _, rfl, .inl (SqL.of t1), _, _, rfl, rfl, _, rfl, ?_⟩
        rw [List.length_map]
        rcases h with ⟨many, hz⟩ | ⟨few, n, r, hp1, h⟩
        · refine ifT (decide_eq_true (by show (60 : Int) < ((linesOfM text).length : Nat); omega)) ⟨_, rfl, pt, _, rfl, .inl (SqL.of t1), rfl, fun h => (nomatch h), fun _ dd hd => ?_⟩
          rw [List.length_map]
          exact hz H1 dd s1 hd
        · refine ifF (decide_eq_false (by show ¬ (60 : Int) < ((linesOfM text).length : Nat); omega)) ?_
          refine ⟨_, rfl, pt, linesOfM text, n, r, rfl, SqL.of t1, asc_parts ha hl, hl3, hp1, fun m e => ?_, fun Ls e t ps H2 sq ob s2 fr => ?_⟩
          · rcases h with ⟨m', e', hz⟩ | ⟨Ls, e', _⟩
            · rw [e'] at e
              cases e
              exact hz.keep s1
            · rw [e'] at e; cases e
          · rcases h with ⟨m', e', hz⟩ | ⟨Ls', e', h⟩
            · rw [e'] at e; cases e
            · rw [e'] at e
              cases e
              have s12 := s1.trans s2
              have t2 := s2 _ _ t1
              have Lsl : Ls.length ≤ 1000 := by
                have : Ls.length = (linesOfM text).length := by
                  subst e'
                  exact programM_len hp1
                omega
              refine ⟨_, rfl, t, ps, Ls, rfl, sq, ob, Lsl, fun H3 s3 => ?_⟩
              refine ⟨_, rfl, _, _, rfl, rfl, _, rfl, ?_⟩
              rcases h with ⟨many, hz⟩ | ⟨few7, qm, fin⟩
              · refine ifT (decide_eq_true (by show (7 : Int) < (ifsM Ls : Nat); omega)) ⟨_, rfl, rfl, fun h => (nomatch h), fun _ dd hd => hz H3 dd (s12.trans s3) hd⟩
              · refine ifF (decide_eq_false (by show ¬ (7 : Int) < (ifsM Ls : Nat); omega)) ?_
                have s123 := s12.trans s3
                refine ⟨_, rfl, _, rfl, _, rfl, _, rfl, k, x, pt, t, linesOfM text, ps, Ls, rfl, SqL.of (s3 _ _ t2), fun z hz => (asc_parts ha hl z hz).1, hl3, s3.sqT sq, ob.same s3, qm, fun r4 H4 hr4 s4 h4 => ?_⟩
                refine ⟨_, rfl, r4, _, rfl, .inl (SqL.of h4), _, _, rfl, rfl, _, rfl, ifF (by rfl) ?_⟩
                have s1234 := s123.trans s4
                exact qE _ k x text pt t _ _ H4 (s1234 _ _ hp) (s4 _ _ (s3 _ _ t2)) (fun b o _ q => s1234 _ _ q) fun tt tp H' o1 o2 o3 σ => fin tt tp H' o1 o2 o3
end
end K40

/-! len(x), x[i], x == y, x != y by the text's own defs -/
namespace L2
open PySem PySem.Spec PyProof.Rows
section
variable {X : Cx} {n : Nat} {f C : Addr} {fd : FuncData} {ps : List Str} {sp : Sp} {CX : CXT}
/-- a def that is called by a built-in -/
theorem run_at {A : Around} {E : XK} {pins : List (Addr × Obj)} {σ : L2.St} {H : Hp} {s : Shared} {us : List Value} {vs : List V} {Q : VK} (sb : Sub X n A) (F : FnOk X.prog X.w X.K X.mg X.base CX n f fd ps sp) (hb : Binds X.K fd ps []) (hx : Passes CX X E)
    (I : Inv X pins σ H s) (r : Vals vs us) (h : sp vs H Q E) : wpAny (model X.prog X.w) A (call (.ref f) us) (EP X pins σ Q) X.xe s := by
  have e := I.env0
  have e0 : Env0 X.prog X.w X.K X.mg X.base A X.stack s H := ⟨by rw [sb.fr]; exact e.frames, e.mod, e.bs, e.bsz, e.funs, e.frf, e.hok, e.bare⟩
  have hl : us.length = ps.length := by rw [← r.length]; exact F.len _ _ _ _ h
  have b := hb s us I.kIn (by rw [List.append_nil]; exact hl)
  rw [List.append_nil] at b
  refine wpAny_call (codeAny_mono (F.run A X.stack s H ⟨us, []⟩ us vs Q E sb.room e0 b r h) fun q s' hq => ?_)
  cases q with
  | error e => exact hx pins σ H s e s' I hq
  | ok fl =>
    cases fl with
    | ret u => exact I.after hq
    | next => exact False.elim hq
    | brk => exact False.elim hq
    | cont => exact False.elim hq
/-- an own def under a name of the language -/
structure OwnD (P : Program) (w : World) (K : PySem.W.Frag) (mg : Str → Option Value) (base : Heap) (C : Addr) (nm : Str) (k : Nat) (ps : List Str) (sp : Sp) : Prop where
  fn : ∃ f fd, FnOk P w K mg base CX0 k f fd ps sp ∧ Binds K fd ps [] ∧ PySem.W.findIn K (.ref C) nm = some (some (.ref f)) ∧ PySem.W.isFn K (.ref f) = true ∧ PySem.W.fnIn K f = true
structure rLenI (C : Addr) (sp : Sp) (xs : List V) (H : Hp) (Q : VK) : Prop where
  out : ∃ a dx fs, xs = [.ref a] ∧ H a = some (.ins C dx fs) ∧ sp [.ref a] H (fun v H' => ∃ i : Int, v = .int i ∧ 0 ≤ i ∧ i < 2 ^ 63 ∧ Q (.int i) H') E0
theorem call_lenI {k : Nat} (O : OwnD X.prog X.w X.K X.mg X.base C "__len__" k ps sp) (hr : Room (k + 1) X.A) (hx : Passes CX0 X E0) : CallR X (.builtin "len") (rLenI C sp) := by
  intro pins s σ H xs us Q I r h
  obtain ⟨a, dx, fs, rfl, ha, hq⟩ := h
  obtain ⟨f, fd, F, b, at_, fn, _⟩ := O.fn
  cases r with
  | cons r1 t =>
    cases t
    cases r1
    obtain ⟨mA, J, _⟩ := ins_get I.hok ha
    obtain ⟨od, J, _⟩ := J.look
    obtain ⟨m, hF⟩ := I.fr
    have sb : Sub X (k + 1) X.A := ⟨hr, rfl⟩
    refine PySem.W.len_K hF I.ok.mod.kin J at_ fn (wpAny_mono (run_at sb.in1 F b hx I (vs := [.ref a]) (.cons rfl .nil) hq) (fun u s' z => ?_) fun _ _ e => e)
    obtain ⟨v, H', I', rv, i, rfl, i0, i1, q⟩ := z
    obtain ⟨t, rfl⟩ := rv
    exact ⟨⟨i0, i1⟩, .int i, H', I'.tok _, ⟨_, rfl⟩, q⟩
/-- x[i] -/
def tItemI (C : Addr) (sp : Sp) (ta ti : TE) : TE := fun σ H Q => ta σ H fun x H1 => ti σ H1 fun i H2 => ∃ a dx fs, x = .ref a ∧ H2 a = some (.ins C dx fs) ∧ sp [.ref a, i] H2 Q E0
theorem pe_itemI {k : Nat} {o i : Expr} {ta ti : TE} {pos : Pos} (O : OwnD X.prog X.w X.K X.mg X.base C "__getitem__" k ps sp) (hr : Room (k + 1) X.A) (hx : Passes CX0 X E0) (ho : PE X o ta) (hi : PE X i ti)
    (hsl : ∀ x v, subscripted i true x v = runValue (.builtin "lifetime.subscript" ⟨[x, v], []⟩) := by intro _ _; with_unfolding_all rfl) : PE X (.Subscript o i pos) (tItemI C sp ta ti) := by
  refine ⟨fun pins s σ H Q I h => Subscript_ (thn (ho.run pins s σ H _ I h) fun u s1 ⟨x, H1, I1, r1, q1⟩ => thn (hi.run pins s1 σ H1 _ I1 q1) fun v s2 ⟨y, H2, I2, r2, a, dx, fs, ex, ha, hq⟩ => ?_)⟩
  subst ex
  cases r1
  obtain ⟨f, fd, F, b, at_, fn, fi⟩ := O.fn
  obtain ⟨mA, J, _⟩ := ins_get I2.hok ha
  obtain ⟨od, J, _⟩ := J.look
  obtain ⟨m, hF⟩ := I2.fr
  have sb : Sub X (k + 1) X.A := ⟨hr, rfl⟩
  exact PySem.W.sub_K hF I2.ok.mod.kin J at_ fi fn (run_at sb.in1 F b hx I2 (vs := [.ref a, y]) (.cons rfl (.cons r2 .nil)) hq) (hsl _ _)
/-- the other side of == : of the same class, or a text -/
def Other (K : PySem.W.Frag) (C : Addr) (y : V) (H : Hp) : Prop := (∃ b dy gs, y = .ref b ∧ H b = some (.ins C dy gs)) ∨ ∃ z, y = .str z
structure rEqI (K : PySem.W.Frag) (C : Addr) (sp : Sp) (x y : V) (H : Hp) (Q : VK) : Prop where
  out : ∃ a dx fs, x = .ref a ∧ H a = some (.ins C dx fs) ∧ Other K C y H ∧ sp [.ref a, y] H (fun v H' => ∃ b : Bool, v = .bl b ∧ Q (.bl b) H') E0
theorem other_ty {pins : List (Addr × Obj)} {σ : L2.St} {H : Hp} {s : Shared} {y : V} {u : Value} (I : Inv X pins σ H s) (r : RelV y u) (o : Other X.K C y H) (hs : PySem.W.subIn X.K (.type "str") (.ref C) = some false) :
    ∃ tb, PySem.W.Looks (model X.prog X.w) s.heap (typeOf u) tb ∧ PySem.W.notFirst X.K C tb = true ∧ (tb = .ref C ∨ PySem.W.subIn X.K tb (.ref C) = some false) := by
  rcases o with ⟨b, dy, gs, rfl, hb⟩ | ⟨z, rfl⟩
  · cases r
    obtain ⟨mB, J, _⟩ := ins_get I.hok hb
    obtain ⟨od, J, _⟩ := J.look
    exact ⟨_, J.type, by simp [PySem.W.notFirst], .inl rfl⟩
  · obtain ⟨t, rfl⟩ := r
    refine ⟨.type "str", .now, ?_, .inr hs⟩
    unfold PySem.W.notFirst
    rw [hs]
    rfl
theorem op_eqI {k : Nat} (O : OwnD X.prog X.w X.K X.mg X.base C "__eq__" k ps sp) (hs : PySem.W.subIn X.K (.type "str") (.ref C) = some false) (hr : Room k X.A) (hx : Passes CX0 X E0) : OpR X (compareOp .Eq) (rEqI X.K C sp) := by
  intro pins s σ H x y u v Q I rx ry h
  obtain ⟨a, dx, fs, rfl, ha, oy, hq⟩ := h
  cases rx
  obtain ⟨f, fd, F, b, at_, fn, _⟩ := O.fn
  obtain ⟨mA, J, _⟩ := ins_get I.hok ha
  obtain ⟨od, J, _⟩ := J.look
  obtain ⟨m, hF⟩ := I.fr
  have sb : Sub X k X.A := ⟨hr, rfl⟩
  obtain ⟨tb, lk, nf, _⟩ := other_ty I ry oy hs
  show wpAny (model X.prog X.w) X.A (richCompare .Eq (.ref a) v) (EP X pins σ Q) X.xe s
  refine PySem.W.cmp_K (op := .Eq) sb.room.units0 hF I.ok.mod.kin J lk nf at_ fn (wpAny_mono (run_at sb F b hx I (vs := [.ref a, y]) (.cons rfl (.cons ry .nil)) hq) (fun w s' z => ?_) fun _ _ e => e)
  obtain ⟨z, H', I', rz, c, rfl, q⟩ := z
  cases rz
  exact ⟨.bl c, H', I', rfl, q⟩
end
section
variable {prog : Program} {w : World} {A : Around} {E : Value → Shared → Prop} {s : Shared} {K : PySem.W.Frag} {x C f : Addr} {ox : Obj} {od : Option Obj} {b : Value}
/-- the language's own != asks the text's == -/
theorem obj_ne {Q : Fin → Shared → Prop} (hu : A.units < cLine) (X : K.In s.heap) (I : PySem.W.InstAt s.heap x ox C od) (hs : PySem.W.findIn K (.ref C) "__eq__" = some (some (.ref f))) (hf : PySem.W.isFn K (.ref f) = true)
    (h : wpAny (model prog w) A (call (.ref f) [.ref x, b]) (fun v s' => ∃ c, v = .bool c ∧ Q (.done (.ret (.bool (!c)))) s') E s) : wpAny (model prog w) A (Builtin.«object.__ne__» ⟨[.ref x, b], []⟩) Q E s := by
  unfold Builtin.«object.__ne__»
  repeat (first
    | with_reducible refine wpAny_cRoomFor hu ?_
    | (refine wpAny_bind (m := callSpecialIfBound? (.ref x) (Str.ofString "__eq__") [b]) (PySem.W.ifBound_K X I hs hf (wpAny_mono h (fun v s' hv => by
        obtain ⟨c, rfl, q⟩ := hv
        repeat (first | exact q | exact wpAny_pure q | exact wpAny_truthy_bool q | (refine wpAny_bind (m := truthy (.bool _)) (wpAny_truthy_bool ?_)) | wp_step)) fun _ _ e => e)))
    | wp_step)
theorem ifBound_ne {M : Model} {args : List Value} {Q : Option Value → Shared → Prop} (X : K.In s.heap) (I : PySem.W.InstAt s.heap x ox C od) (hs : PySem.W.findIn K (.ref C) "__ne__" = some (some (.builtin "object.__ne__")))
    (h : wpAny M A (call (.builtin "object.__ne__") (.ref x :: args)) (fun v => Q (some v)) E s) : wpAny M A (callSpecialIfBound? (.ref x) "__ne__" args) Q E s := by
  simp only [callSpecialIfBound?, bindSpecialIfBound?]
  refine wpAny_holding (wpAny_bind (wpAny_bind (wpAny_bind (I.type.here ((PySem.W.looks_findIn X hs).here ?_)))))
  refine wpAny_bind (wpAny_askSetting (wpAny_ite ?_))
  have done : wpAny M A (call (.builtin "object.__ne__") ([.ref x] ++ args) >>= fun v => pure (some v)) Q E s := wpAny_bind (wpAny_mono h (fun v s' z => wpAny_pure z) fun _ _ z => z)
  split
  · exact wpAny_bind (wpAny_of_eq (F.cmp_object.ne.bind _) (wpAny_pure (by exact done)))
  · exact wpAny_tryCatch (wpAny_bind (wpAny_of_eq (F.cmp_object.ne.bind _) (wpAny_pure (by exact done))))
theorem rc_ne {Q : Value → Shared → Prop} {tb : Value} (hu : A.units + 1 < cLine) (X : K.In s.heap) (I : PySem.W.InstAt s.heap x ox C od) (hm : PySem.W.mroIn K C (.type "object") = some true) (hn : PySem.W.findIn K (.ref C) "__ne__" = some (some (.builtin "object.__ne__")))
    (hs : PySem.W.findIn K (.ref C) "__eq__" = some (some (.ref f))) (hf : PySem.W.isFn K (.ref f) = true) (hb : PySem.W.Looks (model prog w) s.heap (typeOf b) tb) (ht : tb = .ref C ∨ PySem.W.subIn K tb (.ref C) = some false)
    (h : wpAny (model prog w) A.in1 (call (.ref f) [.ref x, b]) (fun v s' => ∃ c, v = .bool c ∧ Q (.bool (!c)) s') E s) : wpAny (model prog w) A (richCompare .NotEq (.ref x) b) Q E s := by
  have one : wpAny (model prog w) A (tryCompare (.ref x) "__ne__" b) (fun r s' => ∃ v, r = some v ∧ Q v s') E s := by
    unfold tryCompare
    refine wpAny_bind (ifBound_ne X I hn (wpAny_call (codeAny_call_builtin F.cmp_object.ne.plain F.cmpEntry_ne (PySem.W.check_slot F.cmpKind_ne F.cmpSplit_ne (I.type.andThen (PySem.W.looks_mroIn X hm)) (F.cmpArgs_ne _ _)
      (obj_ne hu X I hs hf (wpAny_mono h (fun v s' hv => ?_) fun _ _ e => e))))))
    obtain ⟨c, rfl, q⟩ := hv
    first | exact ⟨c, rfl, wpAny_pure ⟨_, rfl, q⟩⟩ | exact ⟨c, rfl, _, rfl, wpAny_pure ⟨_, rfl, q⟩⟩
  simp only [richCompare, cmpInfo_NotEq, oneThing_ref]
  refine wpAny_holding (wpAny_bind (wpAny_cRoomFor (Nat.lt_of_succ_lt hu) ?_))
  refine wpAny_bind (I.type.here (wpAny_bind (hb.here ?_)))
  have fin : wpAny (model prog w) A (tryCompare (.ref x) "__ne__" b) (fun r s' => ∃ v, r = some v ∧ Q v s') E s := one
  split
  · rename_i q
    have e : PySem.W.subIn K tb (.ref C) = some false := by
      rcases ht with e | e
      · rw [e] at q; simp at q
      · exact e
    refine wpAny_bind ((PySem.W.looks_subIn X e).here ?_)
    simp only [Bool.false_eq_true, if_false]
    refine wpAny_bind (wpAny_mono one (fun r s' z => ?_) fun _ _ e => e)
    obtain ⟨v, rfl, hq⟩ := z
    exact wpAny_pure hq
  · refine wpAny_bind (wpAny_pure ?_)
    simp only [Bool.false_eq_true, if_false]
    refine wpAny_bind (wpAny_mono one (fun r s' z => ?_) fun _ _ e => e)
    obtain ⟨v, rfl, hq⟩ := z
    exact wpAny_pure hq
end
section
variable {X : Cx} {C : Addr} {ps : List Str} {sp : Sp}
structure rNeI (K : PySem.W.Frag) (C : Addr) (sp : Sp) (x y : V) (H : Hp) (Q : VK) : Prop where
  out : ∃ a dx fs, x = .ref a ∧ H a = some (.ins C dx fs) ∧ Other K C y H ∧ sp [.ref a, y] H (fun v H' => ∃ b : Bool, v = .bl b ∧ Q (.bl (!b)) H') E0
theorem op_neI {k : Nat} (O : OwnD X.prog X.w X.K X.mg X.base C "__eq__" k ps sp) (hn : PySem.W.findIn X.K (.ref C) "__ne__" = some (some (.builtin "object.__ne__"))) (hm : PySem.W.mroIn X.K C (.type "object") = some true)
    (hs : PySem.W.subIn X.K (.type "str") (.ref C) = some false) (hr : Room (k + 1) X.A) (hu : X.A.units + 65 < cLine) (hx : Passes CX0 X E0) : OpR X (compareOp .NotEq) (rNeI X.K C sp) := by
  intro pins s σ H x y u v Q I rx ry h
  obtain ⟨a, dx, fs, rfl, ha, oy, hq⟩ := h
  cases rx
  obtain ⟨f, fd, F, b, at_, fn, _⟩ := O.fn
  obtain ⟨mA, J, _⟩ := ins_get I.hok ha
  obtain ⟨od, J, _⟩ := J.look
  have sb : Sub X (k + 1) X.A := ⟨hr, rfl⟩
  obtain ⟨tb, lk, _, ht⟩ := other_ty I ry oy hs
  show wpAny (model X.prog X.w) X.A (richCompare .NotEq (.ref a) v) (EP X pins σ Q) X.xe s
  refine rc_ne (by omega) I.kIn J hm hn at_ fn lk ht (wpAny_mono (run_at sb.in1 F b hx I (vs := [.ref a, y]) (.cons rfl (.cons ry .nil)) hq) (fun w s' z => ?_) fun _ _ e => e)
  obtain ⟨z, H', I', rz, c, rfl, q⟩ := z
  cases rz
  exact ⟨c, rfl, .bl (!c), H', I', rfl, q⟩
end
end L2

namespace K40
open PySem PySem.Spec PyProof.Rows L2 Fm PySem.RingX
/-- the class Code, for isinstance -/
structure CodeT (K : PySem.W.Frag) (mg : Str → Option Value) (CC : Addr) : Prop where
  t : ClsT K mg CC "Code" codeNames
  cl : PySem.W.findIn K (.ref CC) "__class__" = some (some (.builtin "object.__class__"))
  hn : PySem.W.specialIn K (.builtin "object.__class__") "__get__" = some (some (.builtin "getset_descriptor.__get__"))
  tk : PySem.W.takesIn K (.builtin "object.__class__") = some true
  mo : PySem.W.mroIn K CC (.type "object") = some true
  ne : PySem.W.findIn K (.ref CC) "__ne__" = some (some (.builtin "object.__ne__"))
  ks : PySem.W.kitOne K (.type "str") (.ref CC) = some false
  ss : PySem.W.subIn K (.type "str") (.ref CC) = some false
theorem CodeT.kc {K : PySem.W.Frag} {mg : Str → Option Value} {CC : Addr} (_ : CodeT K mg CC) : PySem.W.kitOne K (.ref CC) (.ref CC) = some true := by
  unfold PySem.W.kitOne
  rw [if_pos (beq_self_eq_true _)]
/-- a code at p -/
def CodeAt (CC : Addr) (H : Hp) (p : Addr) (k x text : Str) : Prop := ∃ dx tt tp, H p = some (.ins CC dx (cdF k x text tt tp)) ∧ H tt = some (.tup ((linesOfM text).map V.str))
theorem CodeAt.same {CC : Addr} {H H' : Hp} {p : Addr} {k x text : Str} (c : CodeAt CC H p k x text) (s : Same H H') : CodeAt CC H' p k x text := by
  obtain ⟨dx, tt, tp, h1, h2⟩ := c
  exact ⟨dx, tt, tp, s _ _ h1, s _ _ h2⟩
section
variable {P : Program} {w : World} {K : PySem.W.Frag} {mg : Str → Option Value} {base : Heap}
def spCLen (CC : Addr) : Sp := fun vs H Q _ => ∃ (p : Addr) (k x text : Str), vs = [.ref p] ∧ CodeAt CC H p k x text ∧ Q (.int (linesOfM text).length) H
theorem scCLen : FnScope ["self"] ["self"] (defScope s_Code_len) := ⟨rfl, rfl, rfl, by decide +kernel, rfl, by decide +kernel, by decide +kernel⟩
theorem ok_clen {f CC : Addr} {fd : FuncData} (F : Fun K "__len__" "Code.__len__" s_Code_len f fd) (TG : GB mg) (T : CodeT K mg CC) : FnOk P w K mg base CX0 1 f fd ["self"] (spCLen CC) := by
  refine F.ok scCLen (fun vs H Q E h => ?_) (fun cdv A outer s H vs Q E hr h => ?_)
  · obtain ⟨p, k, x, text, rfl, _⟩ := h
    rfl
  · obtain ⟨p, k, x, text, rfl, ⟨dx, tt, tp, h1, h2⟩, q⟩ := h
    refine ⟨_, pss_one (ps_ret (pe_callB call_len_seq (by rfl) TG.len PySem.boot_len (pa_cons (pe_fld (pv 0) rfl) pa_nil))), ?_⟩
    refine ⟨_, rfl, p, CC, dx, _, _, rfl, h1, T.t.cl, T.t.no _ (by simp [codeNames]), cd_texts .., tt, _, rfl, .inr (SqT.of h2), ?_⟩
    rw [List.length_map]
    exact q
def spCGet (CC : Addr) : Sp := fun vs H Q _ => ∃ (p : Addr) (k x text : Str) (i : Nat) (t : Str), vs = [.ref p, .int ((i + 1 : Nat) : Int)] ∧ CodeAt CC H p k x text ∧ (linesOfM text)[i]? = some t ∧ Q (.str t) H
theorem scCGet : FnScope ["self", "number"] ["self", "number"] (defScope s_Code_getitem) := ⟨rfl, rfl, rfl, by decide +kernel, rfl, by decide +kernel, by decide +kernel⟩
theorem ok_cget {f CC : Addr} {fd : FuncData} (F : Fun K "__getitem__" "Code.__getitem__" s_Code_getitem f fd) (T : CodeT K mg CC) : FnOk P w K mg base CX0 1 f fd ["self", "number"] (spCGet CC) := by
  refine F.ok scCGet (fun vs H Q E h => ?_) (fun cdv A outer s H vs Q E hr h => ?_)
  · obtain ⟨p, k, x, text, i, t, rfl, _⟩ := h
    rfl
  · obtain ⟨p, k, x, text, i, t, rfl, ⟨dx, tt, tp, h1, h2⟩, ht, q⟩ := h
    refine ⟨_, pss_one (ps_ret (pe_ix ix_tup (pe_fld (pv 0) rfl) (pe_op op_sub (pv 1) pe_int) (fun _ _ => rfl))), ?_⟩
    have at1 : atI ((linesOfM text).map V.str) (((i + 1 : Nat) : Int) - 1) = some (.str t) := by
      rw [show ((i + 1 : Nat) : Int) - 1 = (i : Nat) by omega]
      exact atI_nat (by rw [List.getElem?_map, ht]; rfl)
    exact ⟨_, rfl, p, CC, dx, _, _, rfl, h1, T.t.cl, T.t.no _ (by simp [codeNames]), cd_texts .., _, rfl, _, _, rfl, rfl, tt, _, _, .str t, rfl, rfl, SqT.of h2, at1, q⟩
def spCEq (CC : Addr) : Sp := fun vs H Q _ => ∃ (p : Addr) (k x text : Str) (y : V), vs = [.ref p, y] ∧ CodeAt CC H p k x text ∧
  ((∃ (q : Addr) (k2 x2 t2 : Str), y = .ref q ∧ CodeAt CC H q k2 x2 t2 ∧ Q (.bl (decide (k = k2 ∧ x = x2 ∧ text = t2))) H) ∨ ∃ z, y = .str z ∧ Q (.bl false) H)
theorem scCEq : FnScope ["self", "other"] ["self", "other"] (defScope s_Code_eq) := ⟨rfl, rfl, rfl, by decide +kernel, rfl, by decide +kernel, by decide +kernel⟩
theorem ok_ceq {f CC : Addr} {fd : FuncData} (F : Fun K "__eq__" "Code.__eq__" s_Code_eq f fd) (TG : GB mg) (T : CodeT K mg CC) : FnOk P w K mg base CX0 1 f fd ["self", "other"] (spCEq CC) := by
  refine F.ok scCEq (fun vs H Q E h => ?_) (fun cdv A outer s H vs Q E hr h => ?_)
  · obtain ⟨p, k, x, text, y, rfl, _⟩ := h
    rfl
  · obtain ⟨p, k, x, text, y, rfl, ⟨dx, tt, tp, h1, h2⟩, h⟩ := h
    refine ⟨_, pss_one (ps_ret (pe_and (pe_callB call_isi (by rfl) TG.isi (by decide +kernel) (pa_cons (pv 1) (pa_cons (pe_glob (v := .ref CC) (by rfl) T.t.gC rfl) pa_nil)))
      (pe_and (pe_cmpR op_eq (pe_fld (pv 0) rfl) (pe_fld (pv 1) rfl) (nomark _)) (pe_and (pe_cmpR op_eq (pe_fld (pv 0) rfl) (pe_fld (pv 1) rfl) (nomark _)) (pe_one (pe_cmpR op_eq (pe_fld (pv 0) rfl) (pe_fld (pv 1) rfl) (nomark _))))))), ?_⟩
    have dS : ∀ a b : Str, decide (V.str a = V.str b) = decide (a = b) := fun a b => by
      by_cases z : a = b
      · rw [decide_eq_true z, decide_eq_true (congrArg V.str z)]
      · rw [decide_eq_false z, decide_eq_false fun w => z (V.str.inj w)]
    rcases h with ⟨q, k2, x2, t2, rfl, ⟨dy, ut, up, g1, g2⟩, hq⟩ | ⟨z, rfl, hq⟩
    · refine ⟨_, rfl, _, _, _, _, true, rfl, .own CC, .base (.ins g1 T.t.cl T.cl T.hn T.tk T.mo), T.kc, true, rfl, iteT ?_⟩
      refine ⟨_, rfl, p, CC, dx, _, _, rfl, h1, T.t.cl, T.t.no _ (by simp [codeNames]), cd_kind .., _, rfl, q, CC, dy, _, _, rfl, g1, T.t.cl, T.t.no _ (by simp [codeNames]), cd_kind .., rfl, _, rfl, ?_⟩
      rw [dS]
      by_cases c1 : k = k2
      · rw [decide_eq_true c1]
        refine iteT ⟨_, rfl, p, CC, dx, _, _, rfl, h1, T.t.cl, T.t.no _ (by simp [codeNames]), cd_way .., _, rfl, q, CC, dy, _, _, rfl, g1, T.t.cl, T.t.no _ (by simp [codeNames]), cd_way .., rfl, _, rfl, ?_⟩
        rw [dS]
        by_cases c2 : x = x2
        · rw [decide_eq_true c2]
          refine iteT ⟨_, rfl, p, CC, dx, _, _, rfl, h1, T.t.cl, T.t.no _ (by simp [codeNames]), cd_text .., _, rfl, q, CC, dy, _, _, rfl, g1, T.t.cl, T.t.no _ (by simp [codeNames]), cd_text .., rfl, ?_⟩
          show Q (.bl (decide (V.str text = V.str t2))) H
          rw [dS]
          have e : decide (k = k2 ∧ x = x2 ∧ text = t2) = decide (text = t2) := by
            by_cases z : text = t2
            · rw [decide_eq_true z, decide_eq_true ⟨c1, c2, z⟩]
            · rw [decide_eq_false z, decide_eq_false fun w => z w.2.2]
          rw [e] at hq
          exact hq
        · rw [decide_eq_false c2]
          rw [decide_eq_false fun w => c2 w.2.1] at hq
          exact iteF hq
      · rw [decide_eq_false c1]
        rw [decide_eq_false fun w => c1 w.1] at hq
        exact iteF hq
    · exact ⟨_, rfl, _, _, _, _, false, rfl, .own CC, .base (.str z), T.ks, false, rfl, iteF hq⟩
end
end K40

namespace L2
open PySem PySem.Spec PyProof.Rows PySem.RingX
/-- isinstance(e, (c1, c2)), e the exception that the suite holds -/
def rIsXT (K : PySem.W.Frag) (a : Addr) (cls : Value) (d : Option Addr) : List V → Hp → VK → Prop := fun xs H Q => ∃ (tp : Addr) (cs : List V) (us : List Value) (C : Addr) (b : Bool), xs = [.ref a, .ref tp] ∧ H tp = some (.tup cs) ∧ Paired ClsV cs us ∧ cls = .ref C ∧ ExcC K C ∧ DictAt H d ∧ PySem.W.kitAny K (.ref C) us = some b ∧ Q (.bl b) H
theorem call_isXT {X : Cx} {a : Addr} {oe : Obj} {cls : Value} {d : Option Addr} {pn : List (Addr × Obj)} (hz : Zc cls d oe) (hf : ∃ vs, oe.data = .fields vs) : CallR (X.suite a ((a, oe) :: pn)) (.builtin "isinstance") (rIsXT X.K a cls d) := by
  intro pins s σ H xs us Q I r h
  obtain ⟨tp, cs, ws, C, b, rfl, hT, k, rfl, K, D, e, q⟩ := h
  obtain ⟨u1, u2, rfl, r1, r2⟩ := vals2 r
  cases (show u1 = Value.ref a from r1)
  cases (show u2 = Value.ref tp from r2)
  obtain ⟨hget, _⟩ := I.pin (a, oe) (List.mem_append.mpr (.inl List.mem_cons_self))
  obtain ⟨od, J⟩ := D.get I.hok hget hz hf
  obtain ⟨_, its, rv, o, h1, h2, n, h3⟩ := (show ObjOk X.prog X.w H s.heap tp (.tup cs) from I.hok tp _ hT)
  have e3 := ClsV.all k rv
  subst e3
  obtain ⟨oc, odd, dt, sl⟩ := o
  simp only at h2 h3
  subst h2 h3
  exact PySem.W.kia_tup (PySem.W.kitx_exc (od := od) (by obtain ⟨cd, hc, _⟩ := PySem.W.any_some K.hd; rw [hc]; rfl) K.hg K.hk K.hs K.ha K.hn K.ht K.hm) I.kIn J h1 e (fun z => nomatch z) fun tk => ⟨.bl b, H, I.tok tk, rfl, q⟩
theorem TyX.keep {K : PySem.W.Frag} {H H' : Hp} {v : V} {t : Value} (h : TyX K H v t) (s : Same H H') : TyX K H' v t := by
  cases h with
  | base h =>
    refine .base ?_
    cases h with
    | non => exact .non
    | bl x => exact .bl x
    | int i => exact .int i
    | str x => exact .str x
    | flt x => exact .flt x
    | lst e => exact .lst (s _ _ e)
    | frz e => exact .frz (s _ _ e)
    | tup e => exact .tup (s _ _ e)
    | dK e => exact .dK (s _ _ e)
    | dT e => exact .dT (s _ _ e)
    | ins e cl ha hn htk hm => exact .ins (s _ _ e) cl ha hn htk hm
  | byt b => exact .byt b
  | set e => exact .set (s _ _ e)
  | kList e c => exact .kList e c
  | kTuple e c => exact .kTuple e c
  | kDict e c => exact .kDict e c
  | fTuple e => exact .fTuple (s _ _ e)
  | fDict e => exact .fDict (s _ _ e)
end L2
namespace K40
open PySem PySem.Spec PyProof.Rows L2 Fm PySem.RingX
theorem NotStr.keep {K : PySem.W.Frag} {H H' : Hp} {v : V} (n : NotStr K H v) (s : Same H H') : NotStr K H' v := by
  obtain ⟨T, h1, h2⟩ := n
  exact ⟨T, h1.keep s, h2⟩
theorem Rz3.keep {C : Addr} {a b c : V} {H H1 : Hp} {E : XK} (x : Rz3 C a b c H E) (s : Same H H1) : Rz3 C a b c H1 E := fun H' dd s1 n => x H' dd (s.trans s1) n
section
variable {P : Program} {w : World} {K : PySem.W.Frag} {mg : Str → Option Value} {base : Heap}
theorem CodeC.keep {CK CY CL CM : Addr} {vk vw : V} {text : Str} {H H' : Hp} {E : XK} {fin fin' : Str → Str → Prop} (c : CodeC K CK CY CL CM vk vw text H E fin) (s : Same H H') (f : ∀ k x, vk = .str k → vw = .str x → fin k x → fin' k x) : CodeC K CK CY CL CM vk vw text H' E fin' := by
  rcases c with ⟨h1, h2⟩ | ⟨k, rfl, hk, h⟩
  · exact .inl ⟨h1.imp id fun n => n.keep s, h2.keep s⟩
  · refine .inr ⟨k, rfl, hk, ?_⟩
    rcases h with ⟨h1, h2⟩ | ⟨x, rfl, hx, ha, hl, hl2, hl3, h⟩
    · exact .inl ⟨h1.imp id fun n => n.keep s, h2.keep s⟩
    · refine .inr ⟨x, rfl, hx, ha, hl, hl2, hl3, ?_⟩
      rcases h with ⟨h1, h2⟩ | ⟨h1, n, r, h2, h⟩
      · exact .inl ⟨h1, h2.keep s⟩
      · refine .inr ⟨h1, n, r, h2, ?_⟩
        rcases h with ⟨m, e, h3⟩ | ⟨Ls, e, h⟩
        · exact .inl ⟨m, e, h3.keep s⟩
        · refine .inr ⟨Ls, e, ?_⟩
          rcases h with ⟨h3, h4⟩ | ⟨h3, h4, h5⟩
          · exact .inl ⟨h3, h4.keep s⟩
          · exact .inr ⟨h3, h4, f k x rfl rfl h5⟩
/-- what a call of the class reads -/
theorem code_made {CC CK CY CL CM : Addr} {vk vw : V} {text : Str} {H : Hp} {E : XK} {Q : VK} (c : CodeC K CK CY CL CM vk vw text H E fun k x => ∀ (q : Addr) (H' : Hp), H q = none → Same H H' → CodeAt CC H' q k x text → Q (.ref q) H') :
    ∀ x dx, H x = none → H dx = none → dx ≠ x → spCodeI K CC CK CY CL CM (.ref x :: ([vk, vw, V.str text] ++ [])) (upd (upd H dx (.own x)) x (.ins CC dx [])) (fun v H2 => v = .non ∧ Q (.ref x) H2) E := fun q dx hq hdx hne => by
  have s : Same H (upd (upd H dx (.own q)) q (.ins CC dx [])) := fun b o h => by
    rw [upd_ne (ne_of_none h hq), upd_ne (ne_of_none h hdx)]; exact h
  refine ⟨q, dx, vk, vw, text, rfl, upd_same, c.keep s fun k x _ _ f tt tp H' o1 o2 o3 => ⟨rfl, f q H' hq (fun b o h => o1 b o (ne_of_none h hq) (s _ _ h)) ⟨dx, tt, tp, o2, o3⟩⟩⟩
/-- what the class Code wants and gives -/
structure CodeK (P : Program) (w : World) (K : PySem.W.Frag) (mg : Str → Option Value) (base : Heap) (CC CK CY CL CM : Addr) : Prop where
  t : CodeT K mg CC
  mkr : ∃ fI fd, Mk K CC fI ∧ FnOk P w K mg base (L2.CX P w) 10 fI fd ["self", "kind", "way", "text"] (spCodeI K CC CK CY CL CM) ∧ L2.Binds K fd ["self", "kind", "way", "text"] []
def spInWay (K : PySem.W.Frag) (CC CK CY CL CM : Addr) : Sp := fun vs H Q E => ∃ (p : Addr) (k x text : Str) (vw : V), vs = [.ref p, vw] ∧ CodeAt CC H p k x text ∧
  CodeC K CK CY CL CM (.str k) vw text H E fun k x => ∀ (q : Addr) (H' : Hp), H q = none → Same H H' → CodeAt CC H' q k x text → Q (.ref q) H'
theorem scInWay : FnScope ["self", "way"] ["self", "way"] (defScope s_Code_in_way) := ⟨rfl, rfl, rfl, by decide +kernel, rfl, by decide +kernel, by decide +kernel⟩
theorem ok_inway {f CC CK CY CL CM : Addr} {fd : FuncData} (F : Fun K "in_way" "Code.in_way" s_Code_in_way f fd) (C : CodeK P w K mg base CC CK CY CL CM) : FnOk P w K mg base (L2.CX P w) 12 f fd ["self", "way"] (spInWay K CC CK CY CL CM) := by
  obtain ⟨T, fI, dI, M, GI, bI⟩ := C
  refine F.okX scInWay (fun vs H Q E h => ?_) (fun cdv A outer s H vs Q E hr h => ?_)
  · obtain ⟨p, k, x, text, vw, rfl, _⟩ := h
    rfl
  · obtain ⟨p, k, x, text, vw, rfl, ⟨dx, tt, tp, h1, h2⟩, c⟩ := h
    refine ⟨_, pss_one (ps_ret (pe_make (E := E) M GI hr (by rfl) T.t.gC bI .nil (passes_call (takes_of rfl rfl rfl rfl) (fun _ _ _ _ z => z)) (pa_cons (pe_fld (pv 0) rfl) (pa_cons (pv 1) (pa_cons (pe_fld (pv 0) rfl) pa_nil))))), ?_⟩
    refine ⟨_, rfl, p, CC, dx, _, _, rfl, h1, T.t.cl, T.t.no _ (by simp [codeNames]), cd_kind .., _, rfl, _, rfl, p, CC, dx, _, _, rfl, h1, T.t.cl, T.t.no _ (by simp [codeNames]), cd_text .., ?_⟩
    exact code_made c
end
end K40

namespace K40
open PySem PySem.Spec PyProof.Rows L2
abbrev sBag : Stmt := s__law_bag
abbrev sDraw : Stmt := s__law_draw

/-! ### the bag -/
def bagK (c : Addr) (at_ dg ct fo : Int) : List (Key × V) := [(.inr "cells", .ref c), (.inr "at", .int at_), (.inr "digits", .int dg), (.inr "count", .int ct), (.inr "fold", .int fo)]
theorem bag_cells (c : Addr) (at_ dg ct fo : Int) : valV (bagK c at_ dg ct fo) (.inr "cells") = some (.ref c) := by kernel_rfl
theorem bag_at (c : Addr) (at_ dg ct fo : Int) : valV (bagK c at_ dg ct fo) (.inr "at") = some (.int at_) := by kernel_rfl
theorem bag_dg (c : Addr) (at_ dg ct fo : Int) : valV (bagK c at_ dg ct fo) (.inr "digits") = some (.int dg) := by kernel_rfl
theorem bag_ct (c : Addr) (at_ dg ct fo : Int) : valV (bagK c at_ dg ct fo) (.inr "count") = some (.int ct) := by kernel_rfl
theorem bag_fo (c : Addr) (at_ dg ct fo : Int) : valV (bagK c at_ dg ct fo) (.inr "fold") = some (.int fo) := by kernel_rfl
theorem put_at (c : Addr) (at_ dg ct fo z : Int) : putK (bagK c at_ dg ct fo) (.inr "at") (.int z) = bagK c z dg ct fo := by kernel_rfl
theorem put_dg (c : Addr) (at_ dg ct fo z : Int) : putK (bagK c at_ dg ct fo) (.inr "digits") (.int z) = bagK c at_ z ct fo := by kernel_rfl
theorem put_ct (c : Addr) (at_ dg ct fo z : Int) : putK (bagK c at_ dg ct fo) (.inr "count") (.int z) = bagK c at_ dg z fo := by kernel_rfl
theorem put_fo (c : Addr) (at_ dg ct fo z : Int) : putK (bagK c at_ dg ct fo) (.inr "fold") (.int z) = bagK c at_ dg ct z := by kernel_rfl
theorem bag_mk (c : Addr) (fo : Int) : mergeK [] (bagK c 0 0 0 fo) = bagK c 0 0 0 fo := by kernel_rfl

/-- a bag at b over the script ns, its cells at c, from which ct draws were made -/
structure BagAt (H : Hp) (b c : Addr) (ns : List Int) (ct : Int) : Prop where
  ex : ∃ (at_ dg fo : Int), H b = some (.dK (bagK c at_ dg ct fo)) ∧ H c = some (.lst (ns.map V.int)) ∧ 0 ≤ at_ ∧ 0 ≤ dg ∧ 0 ≤ fo ∧ fo < 2147483587
theorem BagAt.keep {H H' : Hp} {b c : Addr} {ns : List Int} {ct : Int} (B : BagAt H b c ns ct) (s : Same H H') : BagAt H' b c ns ct := by
  obtain ⟨at_, dg, fo, h1, h2, h3⟩ := B.ex
  exact ⟨at_, dg, fo, s _ _ h1, s _ _ h2, h3⟩
theorem BagAt.updl {H : Hp} {b c D : Addr} {ns : List Int} {ct : Int} {o : HO} (B : BagAt H b c ns ct) (nb : b ≠ D) (nc : c ≠ D) : BagAt (upd H D o) b c ns ct := by
  obtain ⟨at_, dg, fo, h1, h2, h3⟩ := B.ex
  exact ⟨at_, dg, fo, by rw [upd_ne nb]; exact h1, by rw [upd_ne nc]; exact h2, h3⟩
theorem BagAt.dk {H : Hp} {b c : Addr} {ns : List Int} {ct : Int} (B : BagAt H b c ns ct) : ∃ kvs, H b = some (.dK kvs) :=
  let ⟨_, _, _, h, _⟩ := B.ex; ⟨_, h⟩
/-- a new object is neither the bag nor its cells -/
theorem BagAt.off {H : Hp} {b c D : Addr} {ns : List Int} {ct : Int} (B : BagAt H b c ns ct) (hD : H D = none) : b ≠ D ∧ c ≠ D := by
  obtain ⟨at_, dg, fo, h1, h2, _⟩ := B.ex
  exact ⟨ne_of_none h1 hD, ne_of_none h2 hD⟩
/-- all that was tracked is as it was, but what stands at b -/
def SameBut (b : Addr) (H H' : Hp) : Prop := ∀ q o, q ≠ b → H q = some o → H' q = some o
theorem SameBut.refl (b : Addr) (H : Hp) : SameBut b H H := fun _ _ _ h => h
theorem SameBut.trans {b : Addr} {H H1 H2 : Hp} (x : SameBut b H H1) (y : SameBut b H1 H2) : SameBut b H H2 := fun q o hq h => y q o hq (x q o hq h)
theorem SameBut.of {b : Addr} {H H1 : Hp} (x : Same H H1) : SameBut b H H1 := fun q o _ h => x q o h
theorem SameBut.upd {b : Addr} {H H1 : Hp} (x : SameBut b H H1) (o : HO) : SameBut b H (upd H1 b o) := fun q u hq h => by rw [upd_ne hq]; exact x q u hq h

def spDraw : Sp := fun vs H Q _ => ∃ (b c : Addr) (lim : Int) (ns : List Int) (ct : Int), vs = [.ref b, .int lim] ∧ BagAt H b c ns ct ∧ 0 ≤ ct ∧ ct < 1000000 ∧ 0 < lim ∧ lim < 2 ^ 200 ∧ ns.length < 1000 ∧
  ∀ (r : Int) (H' : Hp), 0 ≤ r → r < lim → BagAt H' b c ns (ct + 1) → SameBut b H H' → Q (.int r) H'
def spBag (K : PySem.W.Frag) : Sp := fun vs H Q _ => ∃ (a : Addr) (ns : List Int), vs = [.ref a] ∧ SqL K H a (ns.map V.int) ∧ ns.length < 1000 ∧ ∀ (b c : Addr) (H' : Hp), H b = none → BagAt H' b c ns 0 → Same H H' → Q (.ref b) H'

theorem sq_upd {K : PySem.W.Frag} {H : Hp} {a b : Addr} {xs : List V} {kvs : List (Key × V)} {o : HO} (h : SqL K H a xs) (hb : H b = some (.dK kvs)) : SqL K (upd H b o) a xs := by
  rcases h with (h | ⟨u, h⟩) | h
  · exact .inl (.inl (by rw [upd_ne (ne_of h hb (fun z => nomatch z))]; exact h))
  · exact .inl (.inr ⟨u, by rw [upd_ne (ne_of h hb (fun z => nomatch z))]; exact h⟩)
  · exact .inr h
theorem small5 {c : Addr} {at_ dg ct fo : Int} : (bagK c at_ dg ct fo).length < sizeLine := by show 5 < sizeLine; decide
/-- the bag as it stands, in a def that draws -/
structure BG (K : PySem.W.Frag) (H0 H : Hp) (b c : Addr) (ns : List Int) (at_ dg ct fo : Int) : Prop where
  h : H b = some (.dK (bagK c at_ dg ct fo))
  q : SqL K H c (ns.map V.int)
  s : SameBut b H0 H
section
variable {K : PySem.W.Frag} {H0 H : Hp} {b c : Addr} {ns : List Int} {a_ d_ n_ f_ : Int}
theorem BG.at_ (B : BG K H0 H b c ns a_ d_ n_ f_) (z : Int) : BG K H0 (upd H b (.dK (putK (bagK c a_ d_ n_ f_) (.inr "at") (.int z)))) b c ns z d_ n_ f_ := ⟨by rw [upd_same, put_at], sq_upd B.q B.h, B.s.upd _⟩
theorem BG.dg (B : BG K H0 H b c ns a_ d_ n_ f_) (z : Int) : BG K H0 (upd H b (.dK (putK (bagK c a_ d_ n_ f_) (.inr "digits") (.int z)))) b c ns a_ z n_ f_ := ⟨by rw [upd_same, put_dg], sq_upd B.q B.h, B.s.upd _⟩
theorem BG.ct (B : BG K H0 H b c ns a_ d_ n_ f_) (z : Int) : BG K H0 (upd H b (.dK (putK (bagK c a_ d_ n_ f_) (.inr "count") (.int z)))) b c ns a_ d_ z f_ := ⟨by rw [upd_same, put_ct], sq_upd B.q B.h, B.s.upd _⟩
theorem BG.fo (B : BG K H0 H b c ns a_ d_ n_ f_) (z : Int) : BG K H0 (upd H b (.dK (putK (bagK c a_ d_ n_ f_) (.inr "fold") (.int z)))) b c ns a_ d_ n_ z := ⟨by rw [upd_same, put_fo], sq_upd B.q B.h, B.s.upd _⟩
theorem BG.gc (B : BG K H0 H b c ns a_ d_ n_ f_) : DGet H b (.str "cells") (some (.ref c)) := by have z := DGet.k (k := Sum.inr "cells") B.h; rw [bag_cells] at z; exact z
theorem BG.ga (B : BG K H0 H b c ns a_ d_ n_ f_) : DGet H b (.str "at") (some (.int a_)) := by have z := DGet.k (k := Sum.inr "at") B.h; rw [bag_at] at z; exact z
theorem BG.gd (B : BG K H0 H b c ns a_ d_ n_ f_) : DGet H b (.str "digits") (some (.int d_)) := by have z := DGet.k (k := Sum.inr "digits") B.h; rw [bag_dg] at z; exact z
theorem BG.gn (B : BG K H0 H b c ns a_ d_ n_ f_) : DGet H b (.str "count") (some (.int n_)) := by have z := DGet.k (k := Sum.inr "count") B.h; rw [bag_ct] at z; exact z
theorem BG.gf (B : BG K H0 H b c ns a_ d_ n_ f_) : DGet H b (.str "fold") (some (.int f_)) := by have z := DGet.k (k := Sum.inr "fold") B.h; rw [bag_fo] at z; exact z
theorem BG.out (B : BG K H0 H b c ns a_ d_ n_ f_) (hc : H0 c = some (.lst (ns.map V.int))) (nc : c ≠ b) (h1 : 0 ≤ a_) (h2 : 0 ≤ d_) (h3 : 0 ≤ f_) (h4 : f_ < 2147483587) : BagAt H b c ns n_ := ⟨a_, d_, f_, B.h, B.s _ _ nc hc, h1, h2, h3, h4⟩
end
structure BTxt (mg : Str → Option Value) : Prop where
  len : mg "len" = none
  int : mg "int" = none
  list : mg "list" = none
section
variable {P : Program} {w : World} {K : PySem.W.Frag} {mg : Str → Option Value} {base : Heap}
theorem scD : FnScope ["bag", "limit", "cell", "digit", "base"] ["bag", "limit"] (defScope sDraw) := ⟨rfl, rfl, rfl, by decide +kernel, rfl, by decide +kernel, by decide +kernel⟩
theorem ok_draw {f : Addr} {fd : FuncData} (F : Fun K "_law_draw" "_law_draw" sDraw f fd) (T : BTxt mg) : FnOk P w K mg base CX0 1 f fd ["bag", "limit"] spDraw := by
  refine F.ok scD (fun vs H Q E h => ?_) (fun cdv A outer s H vs Q E hr h => ?_)
  · obtain ⟨b, c, lim, ns, ct, rfl, _⟩ := h
    rfl
  · obtain ⟨b, c, lim, ns, ct, rfl, ⟨at_, dg, fo, hb, hc, h1, h2, h3, h4⟩, hct, hct2, hl, hl2, hns, k⟩ := h
    have nc : c ≠ b := ne_of hc hb (fun z => nomatch z)
    have hu := hu_of hr
    -- behind the first if
    obtain ⟨t2, p2, q2⟩ : ∃ t2, PSs (cxOf CX0 P w K mg base ["bag", "limit", "cell", "digit", "base"] "_law_draw" (defScope sDraw) f cdv A outer s H E).nox ((defBody sDraw).drop 2) t2 ∧
        ∀ (v2 : Option V) (H1 : Hp) (a1 d1 f1 : Int), BG K H H1 b c ns a1 d1 (ct + 1) f1 → 0 ≤ a1 → 0 ≤ d1 → 0 ≤ f1 → f1 < 2147483587 → t2 { nx := fun _ H' => Q .non H', rt := Q } [some (.ref b), some (.int lim), v2, none, none] H1 := by
      refine ⟨_, pss_cons (ps_if (pt_cmpR op_gt (pe_dget hu (pv 0) pe_str (fun _ _ => rfl)) pe_int (nomark _))
        (pss_cons (ps_set (i := 3) scD.nd rfl (Or.inl rfl) (pe_op op_mod (pe_callTy call_int1 (by rfl) T.int (by decide +kernel) (pa_cons (pe_dget hu (pv 0) pe_str (fun _ _ => rfl)) pa_nil)) (pv 1)))
        (pss_cons (ps_dput hu (pv 0) pe_str (pe_op op_fdivW (pe_dget hu (pv 0) pe_str (fun _ _ => rfl)) (pv 1)) rfl)
        (pss_one (ps_ret (pv 3))))) pss_nil)
      (pss_cons (ps_set (i := 4) scD.nd rfl (Or.inl rfl) (pe_op op_add (pe_op op_add (pe_dget hu (pv 0) pe_str (fun _ _ => rfl)) (pe_op op_mul (pe_dget hu (pv 0) pe_str (fun _ _ => rfl)) pe_int)) pe_int))
      (pss_one (ps_ret (pe_op op_mod (pe_op op_fdiv (pe_callTy call_int1 (by rfl) T.int (by decide +kernel) (pa_cons (pe_op op_mod (pe_op op_pow (pv 4) pe_int) pe_int) pa_nil)) pe_int) (pv 1))))), ?_⟩
      intro v2 H1 a1 d1 f1 B x1 x2 x3 x4
      have hlw : CDivW d1 lim := wide_div (b := 200) hl (by omega) (by decide) (by decide)
      refine ⟨_, rfl, b, _, rfl, B.gd, _, _, rfl, rfl, _, rfl, ite2 (fun c1 => ?_) (fun c1 => ?_)⟩
      · -- a digit
        refine ⟨_, rfl, b, _, rfl, B.gd, .inl ⟨_, rfl, _, rfl, _, _, rfl, rfl, hl, ?_⟩⟩
        refine ⟨_, rfl, b, _, rfl, B.gd, _, rfl, _, _, rfl, rfl, hlw, _, rfl, b, _, rfl, DPut.k (k := Sum.inr "digits") B.h small5, ?_⟩
        have B2 := B.dg (d1 / lim)
        refine ⟨_, rfl, ?_⟩
        exact k _ _ (Int.emod_nonneg _ (by omega)) (Int.emod_lt_of_pos _ hl) (B2.out hc nc x1 (Int.ediv_nonneg x2 (by omega)) x3 x4) B2.s
      · -- from the fold
        refine ⟨_, rfl, b, _, rfl, B.gf, _, rfl, b, _, rfl, B.gn, _, _, rfl, rfl, .inl ⟨by omega, by omega⟩, _, _, rfl, rfl, _, _, rfl, rfl, ?_⟩
        refine ⟨_, rfl, _, _, rfl, rfl, ⟨by decide, by decide, by omega⟩, _, _, rfl, rfl, (by show (0 : Int) < 2305843009213693951; decide), .inl ⟨_, rfl, _, _, rfl, rfl, ⟨by decide, by decide⟩, _, rfl, _, _, rfl, rfl, hl, ?_⟩⟩
        exact k _ _ (Int.emod_nonneg _ (by omega)) (Int.emod_lt_of_pos _ hl) (B.out hc nc x1 x2 x3 x4) B.s
    refine ⟨_, pss_cons (ps_dput hu (pv 0) pe_str (pe_op op_add (pe_dget hu (pv 0) pe_str (fun _ _ => rfl)) pe_int) rfl)
      (pss_cons (ps_if (PW.pt (pw_and (pt_cmpR op_eq (pe_dget hu (pv 0) pe_str (fun _ _ => rfl)) pe_int (nomark _))
          (pw_and1 (pt_cmpR op_lt (pe_dget hu (pv 0) pe_str (fun _ _ => rfl)) (pe_callB call_len_seq (by rfl) T.len PySem.boot_len (pa_cons (pe_dget hu (pv 0) pe_str (fun _ _ => rfl)) pa_nil)) (nomark _)))))
        (pss_cons (ps_set (i := 2) scD.nd rfl (Or.inl rfl) (pe_ix ix_list (pe_dget hu (pv 0) pe_str (fun _ _ => rfl)) (pe_dget hu (pv 0) pe_str (fun _ _ => rfl)) (fun _ _ => rfl)))
        (pss_cons (ps_dput hu (pv 0) pe_str (pe_op op_add (pe_dget hu (pv 0) pe_str (fun _ _ => rfl)) pe_int) rfl)
        (pss_one (ps_if (pt_cmpR op_ge (pv 2) (pe_op op_pow pe_int pe_int) (nomark _))
          (pss_one (ps_dput hu (pv 0) pe_str (pe_op op_sub (pv 2) (pe_op op_pow pe_int pe_int)) rfl))
          (pss_one (ps_dput hu (pv 0) pe_str (pe_op op_mod (pe_callTy call_int1 (by rfl) T.int (by decide +kernel) (pa_cons (pe_op op_add (pe_op op_mul (pe_dget hu (pv 0) pe_str (fun _ _ => rfl)) pe_int) (pv 2)) pa_nil)) pe_int) rfl))))))
        pss_nil) p2), ?_⟩
    have B0 : BG K H H b c ns at_ dg ct fo := ⟨hb, SqL.of hc, SameBut.refl _ _⟩
    -- bag['count'] = bag['count'] + 1
    refine ⟨_, rfl, b, _, rfl, B0.gn, _, _, rfl, rfl, _, rfl, b, _, rfl, DPut.k (k := Sum.inr "count") B0.h small5, ?_⟩
    have B1 := B0.ct (ct + 1)
    refine ⟨_, rfl, b, _, rfl, B1.gd, rfl, _, rfl, ?_⟩
    refine ite2 (fun c1 => ?_) (fun c1 => ?_)
    · refine ⟨_, rfl, b, _, rfl, B1.ga, _, rfl, b, _, rfl, B1.gc, c, _, rfl, .inl B1.q, _, _, rfl, rfl, _, rfl, ?_⟩
      refine ite2 (fun c2 => ?_) (fun c2 => ?_)
      · have hlt : at_ < (ns.map V.int).length := of_decide_eq_true c2
        rw [List.length_map] at hlt
        obtain ⟨j, ej⟩ : ∃ j : Nat, at_ = (j : Int) := ⟨at_.toNat, by omega⟩
        have hj : j < ns.length := by omega
        have hget : (ns.map V.int)[j]? = some (V.int ns[j]) := by rw [List.getElem?_map, List.getElem?_eq_getElem hj]; rfl
        refine ⟨_, rfl, b, _, rfl, B1.gc, _, rfl, b, _, rfl, B1.ga, c, _, _, _, rfl, rfl, B1.q, by rw [ej]; exact atI_nat hget, ?_⟩
        refine ⟨_, rfl, b, _, rfl, B1.ga, _, _, rfl, rfl, _, rfl, b, _, rfl, DPut.k (k := Sum.inr "at") B1.h small5, ?_⟩
        have B2 := B1.at_ (at_ + 1)
        refine ⟨_, rfl, _, _, rfl, rfl, ⟨by decide, by decide, by decide⟩, _, _, rfl, rfl, _, rfl, ite2 (fun c3 => ?_) (fun c3 => ?_)⟩
        · have hge : (10 : Int) ^ (18 : Int).toNat ≤ ns[j] := of_decide_eq_true c3
          refine ⟨_, rfl, _, _, rfl, rfl, ⟨by decide, by decide, by decide⟩, _, _, rfl, rfl, _, rfl, b, _, rfl, DPut.k (k := Sum.inr "digits") B2.h small5, ?_⟩
          exact q2 _ _ _ _ _ (B2.dg (ns[j] - 10 ^ (18 : Int).toNat)) (by omega) (by omega) h3 h4
        · refine ⟨_, rfl, b, _, rfl, B2.gf, _, _, rfl, rfl, .inl ⟨by omega, by omega⟩, _, rfl, _, _, rfl, rfl, .inl ⟨_, rfl, _, _, rfl, rfl, (by show (0 : Int) < 2147483587; decide), ?_⟩⟩
          refine ⟨_, rfl, b, _, rfl, DPut.k (k := Sum.inr "fold") B2.h small5, ?_⟩
          exact q2 _ _ _ _ _ (B2.fo _) (by omega) h2 (Int.emod_nonneg _ (by decide)) (Int.emod_lt_of_pos _ (by decide))
      · exact q2 _ _ _ _ _ B1 h1 h2 h3 h4
    · refine iteF ?_
      exact q2 _ _ _ _ _ B1 h1 h2 h3 h4
end
end K40

namespace K40
open PySem PySem.Spec PyProof.Rows L2
theorem sq_new {K : PySem.W.Frag} {H : Hp} {a p : Addr} {xs : List V} {o : HO} (h : SqL K H a xs) (hp : H p = none) : SqL K (upd H p o) a xs := (same_upd hp).seq h
section
variable {P : Program} {w : World} {K : PySem.W.Frag} {mg : Str → Option Value} {base : Heap}
theorem scB : FnScope ["script", "fold", "cell"] ["script"] (defScope sBag) := ⟨rfl, rfl, rfl, by decide +kernel, rfl, by decide +kernel, by decide +kernel⟩
theorem ok_bag {f : Addr} {fd : FuncData} (F : Fun K "_law_bag" "_law_bag" sBag f fd) (T : BTxt mg) : FnOk P w K mg base CX0 1 f fd ["script"] (spBag K) := by
  refine F.ok scB (fun vs H Q E h => ?_) (fun cdv A outer s H vs Q E hr h => ?_)
  · obtain ⟨a, ns, rfl, _⟩ := h
    rfl
  · obtain ⟨a, ns, rfl, hS, hns, k⟩ := h
    have hu := hu_of hr
    refine ⟨_, pss_cons (ps_set (i := 1) scB.nd rfl (Or.inl rfl) pe_int)
      (pss_cons (ps_for PassesOwn.never rfl (pi_list (pv 0)) (pg_name (i := 2) scB.nd rfl (Or.inl rfl))
        (pss_one (ps_set (i := 1) scB.nd rfl (Or.inl rfl) (pe_op op_mod (pe_callTy call_int1 (by rfl) T.int (by decide +kernel) (pa_cons (pe_op op_add (pe_op op_mul (pv 1) pe_int) (pv 2)) pa_nil)) pe_int))))
      (pss_one (ps_ret (pe_disp (pps_cons pe_str (pe_callTy call_list_of (by rfl) T.list (by decide +kernel) (pa_cons (pv 0) pa_nil)) (pps_cons pe_str pe_int (pps_cons pe_str pe_int (pps_cons pe_str pe_int (pps_cons pe_str (pv 1) pps_nil))))) (by rfl) (by rfl) (fun z => by cases z) (by decide))))), ?_⟩
    refine ⟨_, rfl, a, rfl, ⟨_, hS⟩, for_list (K := K) (a := a) (xs := ns.map V.int) (fun i σ H' => ∃ (fo : Int) (v : Option V), σ = [some (.ref a), some (.int fo), v] ∧ H' = H ∧ 0 ≤ fo ∧ fo < 1000000009)
      ⟨0, none, rfl, rfl, by decide, by decide⟩ (fun i σ H' _ ⟨_, _, _, e, _⟩ => by rw [e]; exact hS) ?_ ?_⟩
    · rintro i y σ H' hi ⟨fo, v, rfl, rfl, h1, h2⟩
      obtain ⟨z, rfl⟩ : ∃ z, y = V.int z := by
        rw [List.getElem?_map] at hi
        cases e : ns[i]? with
        | none => rw [e] at hi; cases hi
        | some z => rw [e] at hi; exact ⟨z, (Option.some.inj hi).symm⟩
      refine ⟨_, rfl, _, _, rfl, rfl, .inl ⟨by omega, by omega⟩, _, rfl, _, _, rfl, rfl, .inl ⟨_, rfl, _, _, rfl, rfl, (by show (0 : Int) < 1000000009; decide), ?_⟩⟩
      exact ⟨_, _, rfl, rfl, Int.emod_nonneg _ (by decide), Int.emod_lt_of_pos _ (by decide)⟩
    · rintro σ H' ⟨fo, v, rfl, rfl, h1, h2⟩
      intro p hp
      refine ⟨_, rfl, a, _, rfl, .inl (sq_new hS hp), fun l hl => ⟨_, rfl, ?_⟩⟩
      have lp : l ≠ p := fun z => by rw [z, upd_same] at hl; cases hl
      refine ⟨by rw [upd_ne lp.symm, upd_same], bagK l 0 0 0 fo, rfl, (by show 5 ≤ 15; decide), ?_⟩
      rw [bag_mk]
      refine k p l _ hp ⟨0, 0, fo, upd_same, ?_, by decide, by decide, h1, by omega⟩ ?_
      · rw [upd_ne lp, upd_same]
      · intro q o hq
        rw [upd_ne (ne_of_none hq hp), upd_ne (ne_of_none (by rw [upd_ne (ne_of_none hq hp)]; exact hq) hl), upd_ne (ne_of_none hq hp)]
        exact hq

end
end K40

namespace K40
open PySem PySem.Spec PyProof.Rows L2 Fm PySem.RingX
theorem xf_of {prog : Program} {K : PySem.W.Frag} {mg : Str → Option Value} {C fI : Addr} {nm : Str} {fs : List Str} (T : ExTxt prog K mg C fI nm fs) : XfC K C := ⟨T.ga, T.gg, T.exC, T.hdC⟩
theorem takes_len {X : Cx} {W : WX} (tk : Takes X W) : Takes X (fun cls d σ H => σ.length = X.N.length → W cls d σ H) := fun u s' ⟨a, B, sI, pins, σ, H, cls, d, e, I, nb, up, sky, na, os, ag, w⟩ =>
  tk u s' ⟨a, B, sI, pins, σ, H, cls, d, e, I, nb, up, sky, na, os, ag, w I.len⟩
theorem set_len5 {σ : L2.St} (h : σ.length = 5) (v : Option V) : (σ.set 4 v)[4]? = some v := by
  rw [List.getElem?_set, if_pos rfl, if_pos (by omega)]
/-- how the errors stand to one another -/
structure RelC (K : PySem.W.Frag) (mg : Str → Option Value) (CK CY CL CM CF RE : Addr) : Prop where
  gR : mg "RingError" = some (.ref RE)
  gF : mg "Refused" = some (.ref CF)
  ex : ∀ C ∈ [CK, CY, CL, CM], PySem.W.exmOne K (.ref C) (.ref RE) = some true
  xc : ∀ C ∈ [CK, CY, CL, CM], ExcC K C
  kk : PySem.W.kitOne K (.ref CK) (.ref CK) = some true
  yk : PySem.W.kitOne K (.ref CY) (.ref CK) = some false
  yy : PySem.W.kitOne K (.ref CY) (.ref CY) = some true
  mk_ : PySem.W.kitOne K (.ref CM) (.ref CK) = some false
  my : PySem.W.kitOne K (.ref CM) (.ref CY) = some false
  mm : PySem.W.kitOne K (.ref CM) (.ref CM) = some true
  lk : PySem.W.kitOne K (.ref CL) (.ref CK) = some false
  ly : PySem.W.kitOne K (.ref CL) (.ref CY) = some false
  lm : PySem.W.kitOne K (.ref CL) (.ref CM) = some false
  ll : PySem.W.kitOne K (.ref CL) (.ref CL) = some true
/-- what is told of a kind, a way and a text -/
def ToldC (K : PySem.W.Frag) (vk vw : V) (text : Str) (H : Hp) (out : List V) : Prop :=
  (((∃ k, vk = .str k ∧ kindM k = false) ∨ NotStr K H vk) ∧ out = [.str "kind", vk]) ∨
  (∃ k, vk = .str k ∧ kindM k = true ∧
    ((((∃ x, vw = .str x ∧ wayM x = false) ∨ NotStr K H vw) ∧ out = [.str "way", vw]) ∨
     (∃ x, vw = .str x ∧ wayM x = true ∧ Asc text ∧ text.length ≤ 90000 ∧ text.length ≤ 900 * 60 ∧ (linesOfM text).length ≤ 1000 ∧
       ((60 < (linesOfM text).length ∧ out = [.str "many", .str "lines", .int (linesOfM text).length, .int 60]) ∨
        ((linesOfM text).length ≤ 60 ∧ ∃ (n : Nat) (r : Except Nat (List LineM)), programM n (linesOfM text) = some r ∧
          ((∃ m : Nat, r = .error m ∧ out = [.str "line", .int m]) ∨
           (∃ Ls, r = .ok Ls ∧ ((7 < ifsM Ls ∧ out = [.str "many", .str "ifs", .int (ifsM Ls), .int 7]) ∨ (ifsM Ls ≤ 7 ∧ QuietM k x (linesOfM text) Ls ∧ out = [.str "made", .str k, .str x, .str text, .int (linesOfM text).length])))))))))
section
variable {P : Program} {w : World} {K : PySem.W.Frag} {mg : Str → Option Value} {base : Heap}
def spTold (K : PySem.W.Frag) : Sp := fun vs H Q _ => ∃ (vk vw : V) (text : Str) (out : List V), vs = [vk, vw, .str text] ∧ ToldC K vk vw text H out ∧ ∀ (p : Addr) (H' : Hp), H p = none → Same H H' → H' p = some (.tup out) → Q (.ref p) H'
theorem scTold : FnScope ["kind", "way", "text", "code", "e"] ["kind", "way", "text"] (defScope s__law_told) := ⟨rfl, rfl, rfl, by decide +kernel, rfl, by decide +kernel, by decide +kernel⟩
theorem ok_told {f CC CK CY CL CM CF RE fK fY fL fM fN : Addr} {fd fdN : FuncData} (F : Fun K "_law_told" "_law_told" s__law_told f fd) (TG : GB mg) (C : CodeK P w K mg base CC CK CY CL CM) (X : EXA P K mg CK CY CL CM fK fY fL fM) (S : RelC K mg CK CY CL CM CF RE)
    (ON : OwnD P w K mg base CC "__len__" 1 ["self"] (spCLen CC)) : FnOk P w K mg base CX0 12 f fd ["kind", "way", "text"] (spTold K) := by
  obtain ⟨T, fI, dI, M, GI, bI⟩ := C
  refine F.ok scTold (fun vs H Q E h => ?_) (fun cdv A outer s H vs Q E hr h => ?_)
  · obtain ⟨vk, vw, text, out, rfl, _⟩ := h
    rfl
  · obtain ⟨vk, vw, text, out, rfl, c, kQ⟩ := h
    have hr2 : Room 2 _ := hr.mono (by decide)
    refine ⟨_, pss_cons (ps_try_cl (Wout := fun _ _ _ _ => False) rfl rfl scTold.nd takes0
        (fun W pn xe tk _ => pss_one (ps_set (i := 3) scTold.nd rfl (Or.inl rfl) (pe_make (E := fun cls d H' => ∀ σ : L2.St, σ.length = 5 → W cls d σ H') M GI hr (by rfl) T.t.gC bI .nil (passes_call (takes_len tk) (fun _ _ σ _ z hl => z σ hl)) (pa_cons (pv 0) (pa_cons (pv 1) (pa_cons (pv 2) pa_nil))))))
        (.named (i := 4) rfl rfl ⟨rfl, by decide, Or.inl S.gR⟩ (fun a oe cls d pn hz hf hb =>
          pss_cons (ps_if (pt_val (pe_callB (call_isX hz hf) (by rfl) TG.isi (by decide +kernel) (pa_cons (pv 4) (pa_cons (pe_glob (v := .ref CK) (by rfl) X.kind.gC rfl) pa_nil)))) (pss_one (ps_ret (pe_tup (pa_cons pe_str (pa_cons (pe_xf (xf_of X.kind) (X.kind.noN _ List.mem_cons_self) hz hf (pv 4)) pa_nil))))) pss_nil)
          (pss_cons (ps_if (pt_val (pe_callB (call_isX hz hf) (by rfl) TG.isi (by decide +kernel) (pa_cons (pv 4) (pa_cons (pe_glob (v := .ref CY) (by rfl) X.way.gC rfl) pa_nil)))) (pss_one (ps_ret (pe_tup (pa_cons pe_str (pa_cons (pe_xf (xf_of X.way) (X.way.noN _ List.mem_cons_self) hz hf (pv 4)) pa_nil))))) pss_nil)
          (pss_cons (ps_if (pt_val (pe_callB (call_isX hz hf) (by rfl) TG.isi (by decide +kernel) (pa_cons (pv 4) (pa_cons (pe_glob (v := .ref CM) (by rfl) X.many.gC rfl) pa_nil)))) (pss_one (ps_ret (pe_tup (pa_cons pe_str (pa_cons (pe_xf (xf_of X.many) (X.many.noN _ List.mem_cons_self) hz hf (pv 4)) (pa_cons (pe_xf (xf_of X.many) (X.many.noN _ (by simp)) hz hf (pv 4)) (pa_cons (pe_xf (xf_of X.many) (X.many.noN _ (by simp)) hz hf (pv 4)) pa_nil))))))) pss_nil)
          (pss_one (ps_ret (pe_ifExp (pt_val (pe_callB (call_isXT hz hf) (by rfl) TG.isi (by decide +kernel) (pa_cons (pv 4) (pa_cons (pe_tup (pa_cons (pe_glob (v := .ref CL) (by rfl) X.line.gC rfl) (pa_cons (pe_glob (v := .ref CF) (by rfl) S.gF rfl) pa_nil))) pa_nil))))
            (pe_tup (pa_cons pe_str (pa_cons (pe_xf (xf_of X.line) (X.line.noN _ List.mem_cons_self) hz hf (pv 4)) pa_nil))) (pe_tup (pa_cons pe_str pa_nil))))))))
        .nil))
      (pss_one (ps_ret (pe_tup (pa_cons pe_str (pa_cons (pe_fld (pv 3) rfl) (pa_cons (pe_fld (pv 3) rfl) (pa_cons (pe_fld (pv 3) rfl) (pa_cons (pe_callB (call_lenI ON hr2 pass0) (by rfl) TG.len PySem.boot_len (pa_cons (pv 3) pa_nil)) pa_nil)))))))), ?_⟩
    refine ⟨_, rfl, _, rfl, _, rfl, ?_⟩
    refine code_made (CC := CC) (Q := fun v H2 => gName 3 v _ H2 _) ?_
    have sd : ∀ {H' : Hp} {dd p : Addr} {o u : HO}, Same H H' → H' dd = none → upd H' dd o p = none → H p = none ∧ Same H (upd (upd H' dd o) p u) := fun {H' dd p o u} s n hp => by
      have s2 : Same H (upd H' dd o) := s.trans (same_upd n)
      refine ⟨?_, s2.trans (same_upd hp)⟩
      cases e : H p with
      | none => rfl
      | some v => rw [s2 _ _ e] at hp; cases hp
    rcases c with ⟨h1, rfl⟩ | ⟨k, rfl, hk, c⟩
    · refine .inl ⟨h1, fun H' dd s n σ hl => ⟨true, S.ex _ (by simp), fun _ a0 na => ?_, fun q => nomatch q⟩⟩
      refine ⟨_, set_len5 hl _, _, _, CK, true, rfl, rfl, S.xc _ (by simp), .inr ⟨dd, _, rfl, upd_same⟩, .own CK, S.kk, true, rfl, iteT ?_⟩
      refine ⟨_, set_len5 hl _, rfl, rfl, dd, _, _, rfl, upd_same, rfl, (by show 2 ≤ sizeLine; decide), fun p hp => ?_⟩
      obtain ⟨p0, sp⟩ := sd s n hp
      exact kQ p _ p0 sp upd_same
    · refine .inr ⟨k, rfl, hk, ?_⟩
      rcases c with ⟨h1, rfl⟩ | ⟨x, rfl, hx, ha, hl1, hl2, hl3, c⟩
      · refine .inl ⟨h1, fun H' dd s n σ hl => ⟨true, S.ex _ (by simp), fun _ a0 na => ?_, fun q => nomatch q⟩⟩
        refine ⟨_, set_len5 hl _, _, _, CY, false, rfl, rfl, S.xc _ (by simp), .inr ⟨dd, _, rfl, upd_same⟩, .own CK, S.yk, false, rfl, iteF ?_⟩
        refine ⟨_, set_len5 hl _, _, _, CY, true, rfl, rfl, S.xc _ (by simp), .inr ⟨dd, _, rfl, upd_same⟩, .own CY, S.yy, true, rfl, iteT ?_⟩
        refine ⟨_, set_len5 hl _, rfl, rfl, dd, _, _, rfl, upd_same, rfl, (by show 2 ≤ sizeLine; decide), fun p hp => ?_⟩
        obtain ⟨p0, sp⟩ := sd s n hp
        exact kQ p _ p0 sp upd_same
      · refine .inr ⟨x, rfl, hx, ha, hl1, hl2, hl3, ?_⟩
        rcases c with ⟨c1, eo⟩ | ⟨c1, n0, r, hp1, c⟩
        · subst eo
          refine .inl ⟨c1, fun H' dd s n σ hl => ?_⟩
          refine ⟨true, S.ex _ (by simp), fun _ a0 na => ?_, fun q => nomatch q⟩
          refine ⟨_, set_len5 hl _, _, _, CM, false, rfl, rfl, S.xc _ (by simp), .inr ⟨dd, _, rfl, upd_same⟩, .own CK, S.mk_, false, rfl, iteF ?_⟩
          refine ⟨_, set_len5 hl _, _, _, CM, false, rfl, rfl, S.xc _ (by simp), .inr ⟨dd, _, rfl, upd_same⟩, .own CY, S.my, false, rfl, iteF ?_⟩
          refine ⟨_, set_len5 hl _, _, _, CM, true, rfl, rfl, S.xc _ (by simp), .inr ⟨dd, _, rfl, upd_same⟩, .own CM, S.mm, true, rfl, iteT ?_⟩
          refine ⟨_, set_len5 hl _, rfl, rfl, dd, _, _, rfl, upd_same, rfl, _, set_len5 hl _, rfl, rfl, dd, _, _, rfl, upd_same, rfl, _, set_len5 hl _, rfl, rfl, dd, _, _, rfl, upd_same, rfl, (by show 4 ≤ sizeLine; decide), fun p hp => ?_⟩
          obtain ⟨p0, sp⟩ := sd s n hp
          exact kQ p _ p0 sp upd_same
        · refine .inr ⟨c1, n0, r, hp1, ?_⟩
          rcases c with ⟨m, er, rfl⟩ | ⟨Ls, er, c⟩
          · refine .inl ⟨m, er, fun H' dd s n σ hl => ⟨true, S.ex _ (by simp), fun _ a0 na => ?_, fun q => nomatch q⟩⟩
            refine ⟨_, set_len5 hl _, _, _, CL, false, rfl, rfl, S.xc _ (by simp), .inr ⟨dd, _, rfl, upd_same⟩, .own CK, S.lk, false, rfl, iteF ?_⟩
            refine ⟨_, set_len5 hl _, _, _, CL, false, rfl, rfl, S.xc _ (by simp), .inr ⟨dd, _, rfl, upd_same⟩, .own CY, S.ly, false, rfl, iteF ?_⟩
            refine ⟨_, set_len5 hl _, _, _, CL, false, rfl, rfl, S.xc _ (by simp), .inr ⟨dd, _, rfl, upd_same⟩, .own CM, S.lm, false, rfl, iteF ?_⟩
            refine ⟨_, set_len5 hl _, (by show 2 ≤ sizeLine; decide), fun t ht => ?_⟩
            have s2 : Same H' (upd H' dd (.xd (xdl ["line"] [V.int m]))) := same_upd n
            have hdt := same_upd (o := .tup [V.ref CL, V.ref CF]) ht _ _ upd_same
            have sT : Same H (upd (upd H' dd (.xd (xdl ["line"] [V.int m]))) t (.tup [V.ref CL, V.ref CF])) := (s.trans s2).trans (same_upd ht)
            refine ⟨t, _, _, CL, true, rfl, upd_same, .cons (.own CL) (.cons (.own CF) .nil), rfl, S.xc _ (by simp), .inr ⟨dd, _, rfl, hdt⟩, kitAny_cons S.ll (fun z => nomatch z) (fun _ => rfl), true, rfl, iteT ?_⟩
            refine ⟨_, set_len5 hl _, rfl, rfl, dd, _, _, rfl, hdt, rfl, (by show 2 ≤ sizeLine; decide), fun p hp => ?_⟩
            refine kQ p _ ?_ (sT.trans (same_upd hp)) upd_same
            cases e : H p with
            | none => rfl
            | some v => rw [sT _ _ e] at hp; cases hp
          · refine .inr ⟨Ls, er, ?_⟩
            rcases c with ⟨c2, eo⟩ | ⟨c2, qm, eo⟩
            · subst eo
              refine .inl ⟨c2, fun H' dd s n σ hl => ?_⟩
              refine ⟨true, S.ex _ (by simp), fun _ a0 na => ?_, fun q => nomatch q⟩
              refine ⟨_, set_len5 hl _, _, _, CM, false, rfl, rfl, S.xc _ (by simp), .inr ⟨dd, _, rfl, upd_same⟩, .own CK, S.mk_, false, rfl, iteF ?_⟩
              refine ⟨_, set_len5 hl _, _, _, CM, false, rfl, rfl, S.xc _ (by simp), .inr ⟨dd, _, rfl, upd_same⟩, .own CY, S.my, false, rfl, iteF ?_⟩
              refine ⟨_, set_len5 hl _, _, _, CM, true, rfl, rfl, S.xc _ (by simp), .inr ⟨dd, _, rfl, upd_same⟩, .own CM, S.mm, true, rfl, iteT ?_⟩
              refine ⟨_, set_len5 hl _, rfl, rfl, dd, _, _, rfl, upd_same, rfl, _, set_len5 hl _, rfl, rfl, dd, _, _, rfl, upd_same, rfl, _, set_len5 hl _, rfl, rfl, dd, _, _, rfl, upd_same, rfl, (by show 4 ≤ sizeLine; decide), fun p hp => ?_⟩
              obtain ⟨p0, sp⟩ := sd s n hp
              exact kQ p _ p0 sp upd_same
            · refine .inr ⟨c2, qm, fun q H' hq s ca => ?_⟩
              obtain ⟨dx, tt, tp, h1, h2⟩ := id ca
              refine ⟨_, rfl, q, CC, dx, _, _, rfl, h1, T.t.cl, T.t.no _ (by simp [codeNames]), cd_kind .., _, rfl, q, CC, dx, _, _, rfl, h1, T.t.cl, T.t.no _ (by simp [codeNames]), cd_way .., _, rfl, q, CC, dx, _, _, rfl, h1, T.t.cl, T.t.no _ (by simp [codeNames]), cd_text .., _, rfl, q, dx, _, rfl, h1, ?_⟩
              refine ⟨q, k, x, text, rfl, ca, _, rfl, by omega, by omega, (by show 5 ≤ sizeLine; decide), fun p hp => ?_⟩
              refine kQ p _ ?_ (s.trans (same_upd hp)) (by rw [upd_same, eo])
              cases e : H p with
              | none => rfl
              | some v => rw [s _ _ e] at hp; cases hp
end
end K40

/-! ## Texts without loops: they link, and nothing in them is refused -/
namespace Fm
open PySem PySem.Spec PyProof.Rows L2
def plainF (l : LineM) : Prop := l.loop = 0 ∧ (l.form = "if" ∨ l.form = "quit" ∨ l.form = "else" ∨ l.form = "end" ∨ (l.form = "set" ∧ l.words.length = 2))
def statL (l : LineM) : Str × List Str × Nat × Nat × Nat × Nat := (l.form, l.words, l.loop, l.opener, l.turn, l.ending)
structure LineOk (Ls : List LineM) (n : Nat) : Prop where
  plain : plainF (lineAt Ls n)
  turn : isTurn (lineAt Ls n).form = true → 1 ≤ (lineAt Ls n).opener ∧ (lineAt Ls n).opener ≤ Ls.length ∧ (lineAt Ls (lineAt Ls n).opener).form = "if" ∧ n ≤ (lineAt Ls (lineAt Ls n).opener).ending
  ifs : (lineAt Ls n).form = "if" → ((lineAt Ls n).turn = 0 → n < (lineAt Ls n).ending) ∧ ((lineAt Ls n).turn ≠ 0 → n ≤ (lineAt Ls n).turn)
def Shape (Ls : List LineM) : Prop := ∀ n, 1 ≤ n → n ≤ Ls.length → LineOk Ls n
theorem stat_at {Ls Ls' : List LineM} (h : Ls.map statL = Ls'.map statL) (n : Nat) : statL (lineAt Ls n) = statL (lineAt Ls' n) := by
  have e : (Ls.map statL)[n - 1]? = (Ls'.map statL)[n - 1]? := by rw [h]
  rw [List.getElem?_map, List.getElem?_map] at e
  unfold lineAt
  rw [List.getD_eq_getElem?_getD, List.getD_eq_getElem?_getD]
  cases h1 : Ls[n - 1]? with
  | none =>
    cases h2 : Ls'[n - 1]? with
    | none => rfl
    | some b => rw [h1, h2] at e; cases e
  | some a =>
    cases h2 : Ls'[n - 1]? with
    | none => rw [h1, h2] at e; cases e
    | some b => rw [h1, h2] at e; exact Option.some.inj e
theorem stat_eq {a b : LineM} (h : statL a = statL b) : a.form = b.form ∧ a.words = b.words ∧ a.loop = b.loop ∧ a.opener = b.opener ∧ a.turn = b.turn ∧ a.ending = b.ending := by
  unfold statL at h
  injection h with h1 h
  injection h with h2 h
  injection h with h3 h
  injection h with h4 h
  injection h with h5 h6
  exact ⟨h1, h2, h3, h4, h5, h6⟩
theorem Shape.stat {Ls Ls' : List LineM} (S : Shape Ls) (h : Ls.map statL = Ls'.map statL) : Shape Ls' := by
  have hl : Ls.length = Ls'.length := by
    have := congrArg List.length h
    rwa [List.length_map, List.length_map] at this
  intro n h1 h2
  obtain ⟨a, b, c⟩ := S n h1 (by omega)
  obtain ⟨e1, e2, e3, e4, e5, e6⟩ := stat_eq (stat_at h n)
  refine ⟨?_, ?_, ?_⟩
  · unfold plainF at a ⊢
    rwa [← e1, ← e2, ← e3]
  · intro t
    rw [← e1] at t
    obtain ⟨b1, b2, b3, b4⟩ := b t
    obtain ⟨g1, _, _, _, _, g6⟩ := stat_eq (stat_at h (lineAt Ls n).opener)
    rw [← e4, ← g1, ← g6]
    exact ⟨b1, by omega, b3, b4⟩
  · rw [← e1, ← e5, ← e6]
    exact c
theorem Shape.land {Ls : List LineM} (S : Shape Ls) : ∀ (k n : Nat), 1 ≤ n → 1 ≤ k → Ls.length + 2 ≤ n + k → ∃ t, landM k Ls n = some t ∧ n ≤ t
  | 0, n, _, h, _ => absurd h (by decide)
  | k + 1, n, h1, _, h2 => by
    unfold landM
    rw [if_neg (by omega)]
    by_cases c : n ≤ Ls.length ∧ isTurn (lineAt Ls n).form = true
    · rw [if_pos c]
      obtain ⟨b1, b2, b3, b4⟩ := (S n h1 c.1).turn c.2
      rw [if_pos ⟨b1, b2⟩, if_neg (by rw [b3]; decide +kernel)]
      obtain ⟨t, e, ht⟩ := S.land k ((lineAt Ls (lineAt Ls n).opener).ending + 1) (by omega) (by omega) (by omega)
      exact ⟨t, e, by omega⟩
    · rw [if_neg c]
      exact ⟨n, rfl, Nat.le_refl _⟩
theorem lineAt_set {Ls : List LineM} {n : Nat} {l : LineM} (h1 : 1 ≤ n) (h2 : n ≤ Ls.length) : lineAt (Ls.set (n - 1) l) n = l := by
  unfold lineAt
  rw [List.getD_eq_getElem?_getD, List.getElem?_set, if_pos rfl, if_pos (by omega)]
  rfl
theorem lineAt_set_ne {Ls : List LineM} {n m : Nat} {l : LineM} (h1 : 1 ≤ n) (h : m ≠ n) (hm : 1 ≤ m) : lineAt (Ls.set (n - 1) l) m = lineAt Ls m := by
  unfold lineAt
  rw [List.getD_eq_getElem?_getD, List.getElem?_set, if_neg (by omega), ← List.getD_eq_getElem?_getD]
theorem map_set {Ls : List LineM} {n : Nat} {l : LineM} (h1 : 1 ≤ n) (h2 : n ≤ Ls.length) (e : statL l = statL (lineAt Ls n)) : (Ls.set (n - 1) l).map statL = Ls.map statL := by
  apply List.ext_getElem?
  intro i
  rw [List.getElem?_map, List.getElem?_map, List.getElem?_set]
  by_cases c : n - 1 = i
  · rw [if_pos c, if_pos (by omega)]
    have : Ls[i]? = some (lineAt Ls n) := by
      unfold lineAt
      rw [List.getD_eq_getElem?_getD, c, List.getElem?_eq_getElem (by omega)]
      rfl
    rw [this]
    exact congrArg some e
  · rw [if_neg c]
/-- line n leads on -/
def Fwd (Ls : List LineM) (n : Nat) : Prop := n < (lineAt Ls n).thn ∧ ((lineAt Ls n).form = "if" → n < (lineAt Ls n).oth)
theorem Shape.link {Ls : List LineM} (S : Shape Ls) {k n : Nat} (h1 : 1 ≤ n) (h2 : n ≤ Ls.length) (hk : Ls.length + 2 ≤ k) :
    ∃ Ls', linkM k Ls n = some Ls' ∧ Ls'.map statL = Ls.map statL ∧ (∀ m, 1 ≤ m → m ≠ n → lineAt Ls' m = lineAt Ls m) ∧ Fwd Ls' n := by
  obtain ⟨pl, tn, fi⟩ := S n h1 h2
  obtain ⟨t, et, ht⟩ := S.land k (n + 1) (by omega) (by omega) (by omega)
  unfold linkM
  rw [et]
  dsimp only
  have fin : ∀ l : LineM, statL l = statL (lineAt Ls n) → n < l.thn → (l.form = "if" → n < l.oth) → (Ls.set (n - 1) l).map statL = Ls.map statL ∧ (∀ m, 1 ≤ m → m ≠ n → lineAt (Ls.set (n - 1) l) m = lineAt Ls m) ∧ Fwd (Ls.set (n - 1) l) n := fun l e a b => by
    refine ⟨map_set h1 h2 e, fun m hm hn => lineAt_set_ne h1 hn hm, ?_⟩
    unfold Fwd
    rw [lineAt_set h1 h2]
    exact ⟨a, b⟩
  by_cases q : (lineAt Ls n).form = "quit"
  · rw [if_pos q]
    exact ⟨_, rfl, fin _ rfl (by show n < Ls.length + 1; omega) (fun z => absurd (q.symm.trans z) (by decide +kernel))⟩
  · rw [if_neg q]
    have ns : (lineAt Ls n).form ≠ "stop" := by
      rcases pl.2 with e | e | e | e | ⟨e, _⟩ <;> rw [e] <;> decide +kernel
    have nw : (lineAt Ls n).form ≠ "walk" := by
      rcases pl.2 with e | e | e | e | ⟨e, _⟩ <;> rw [e] <;> decide +kernel
    rw [if_neg ns, if_neg nw]
    by_cases i : (lineAt Ls n).form = "if"
    · rw [if_pos i]
      obtain ⟨f1, f2⟩ := fi i
      by_cases z : (lineAt Ls n).turn = 0
      · rw [if_pos z]
        obtain ⟨u, eu, hu⟩ := S.land k (lineAt Ls n).ending (by have := f1 z; omega) (by omega) (by have := f1 z; omega)
        rw [eu]
        exact ⟨_, rfl, fin _ rfl (by show n < t; omega) (fun _ => by show n < u; have := f1 z; omega)⟩
      · rw [if_neg z]
        obtain ⟨u, eu, hu⟩ := S.land k ((lineAt Ls n).turn + 1) (by omega) (by omega) (by have := f2 z; omega)
        rw [eu]
        exact ⟨_, rfl, fin _ rfl (by show n < t; omega) (fun _ => by show n < u; have := f2 z; omega)⟩
    · rw [if_neg i]
      exact ⟨_, rfl, fin _ rfl (by show n < t; omega) (fun z => absurd z i)⟩
theorem Shape.linkEach {k : Nat} : ∀ (m n : Nat) (Ls : List LineM), Shape Ls → 1 ≤ n → n + m = Ls.length + 1 → Ls.length + 2 ≤ k → (∀ j, 1 ≤ j → j < n → Fwd Ls j) →
    ∃ Lf, linkAll k m n Ls = some Lf ∧ Lf.map statL = Ls.map statL ∧ ∀ j, 1 ≤ j → j ≤ Ls.length → Fwd Lf j
  | 0, n, Ls, _, h1, h2, _, f => ⟨Ls, rfl, rfl, fun j a b => f j a (by omega)⟩
  | m + 1, n, Ls, S, h1, h2, hk, f => by
    obtain ⟨L2, e, st, ot, fw⟩ := S.link (k := k) h1 (by omega) hk
    have hl : L2.length = Ls.length := by
      have := congrArg List.length st
      rwa [List.length_map, List.length_map] at this
    obtain ⟨Lf, e2, st2, f2⟩ := Shape.linkEach (k := k) m (n + 1) L2 (S.stat st.symm) (by omega) (by omega) (by omega) (fun j a b => by
      by_cases c : j = n
      · rw [c]; exact fw
      · unfold Fwd
        rw [ot j a c]
        exact f j a (by omega))
    refine ⟨Lf, ?_, st2.trans st, fun j a b => f2 j a (by omega)⟩
    unfold Fm.linkAll
    rw [e]
    exact e2
end Fm

namespace Fm
open PySem PySem.Spec PyProof.Rows L2
def isIf (l : LineM) : Bool := decide (l.form = "if")
/-- how many ifs stand from line n on -/
def cnt (Ls : List LineM) (n : Nat) : Nat := ((Ls.drop (n - 1)).filter isIf).length
theorem cnt_mono {Ls : List LineM} {n m : Nat} (h : n ≤ m) : cnt Ls m ≤ cnt Ls n := by
  unfold cnt
  rw [show m - 1 = (n - 1) + (m - 1 - (n - 1)) by omega, ← List.drop_drop]
  exact List.Sublist.length_le ((List.drop_sublist _ _).filter _)
theorem cnt_if {Ls : List LineM} {n : Nat} (h1 : 1 ≤ n) (h2 : n ≤ Ls.length) (h : (lineAt Ls n).form = "if") : cnt Ls n = cnt Ls (n + 1) + 1 := by
  unfold cnt
  have hi : n - 1 < Ls.length := by omega
  rw [List.drop_eq_getElem_cons hi]
  have e : Ls[n - 1] = lineAt Ls n := by
    unfold lineAt
    rw [List.getD_eq_getElem?_getD, List.getElem?_eq_getElem hi]
    rfl
  rw [e, List.filter_cons, if_pos (by unfold isIf; exact decide_eq_true h), List.length_cons, show n - 1 + 1 = n + 1 - 1 by omega]
/-- what a way holds -/
def WayOk (Ls : List LineM) (d : Nat) (w : List Nat) : Prop := (∀ m ∈ w, 1 ≤ m ∧ m ≤ Ls.length) ∧ w.length ≤ d
theorem ways_from {Ls : List LineM} (pl : ∀ n, 1 ≤ n → n ≤ Ls.length → plainF (lineAt Ls n)) (fw : ∀ n, 1 ≤ n → n ≤ Ls.length → Fwd Ls n) : ∀ (d n : Nat), 1 ≤ n → Ls.length + 1 ≤ n + d →
    ∃ (c : Nat) (W : List (List Nat)), 1 ≤ c ∧ c ≤ (d + 1) * 2 ^ cnt Ls n ∧ (∀ w ∈ W, WayOk Ls d w) ∧ ∀ (k : Nat) (wt : List (List Nat × Nat)) (ways : List (List Nat)) (way : List Nat), waysM (k + c) Ls (wt ++ [(way, n)]) ways = waysM k Ls wt (ways ++ W.map (way ++ ·)) := by
  intro d
  induction d with
  | zero =>
    intro n h1 h2
    refine ⟨1, [[]], Nat.le_refl _, ?_, ?_, ?_⟩
    · have := Nat.one_le_two_pow (n := cnt Ls n)
      omega
    · intro w hw
      rw [List.mem_singleton.mp hw]
      exact ⟨fun m hm => (by cases hm), Nat.le_refl _⟩
    · intro k wt ways way
      show waysM (k + 1) Ls _ _ = _
      rw [waysM]
      rw [List.getLast?_concat]
      dsimp only
      rw [if_pos (by show n > Ls.length; omega), List.dropLast_concat]
      simp
  | succ d ih =>
    intro n h1 h2
    have p1 : 1 ≤ 2 ^ cnt Ls n := Nat.one_le_two_pow
    by_cases c : n > Ls.length
    · refine ⟨1, [[]], Nat.le_refl _, ?_, ?_, ?_⟩
      · exact Nat.le_trans p1 (Nat.le_mul_of_pos_left _ (by omega))
      · intro w hw
        rw [List.mem_singleton.mp hw]
        exact ⟨fun m hm => (by cases hm), Nat.zero_le _⟩
      · intro k wt ways way
        show waysM (k + 1) Ls _ _ = _
        rw [waysM]
        rw [List.getLast?_concat]
        dsimp only
        rw [if_pos c, List.dropLast_concat]
        simp
    · have hn : n ≤ Ls.length := by omega
      obtain ⟨f1, f2⟩ := fw n h1 hn
      have plain := pl n h1 hn
      have nw : (lineAt Ls n).form ≠ "walk" := by
        rcases plain.2 with e | e | e | e | ⟨e, _⟩ <;> rw [e] <;> decide +kernel
      obtain ⟨c1, W1, a1, b1, o1, r1⟩ := ih (lineAt Ls n).thn (by omega) (by omega)
      have m1 : cnt Ls (lineAt Ls n).thn ≤ cnt Ls (n + 1) := cnt_mono (by omega)
      have q1 : 2 ^ cnt Ls (lineAt Ls n).thn ≤ 2 ^ cnt Ls (n + 1) := Nat.pow_le_pow_right (by decide) m1
      have ok : ∀ w : List Nat, WayOk Ls d w → WayOk Ls (d + 1) ([n] ++ w) := fun w hw => ⟨fun m hm => by
        rcases List.mem_append.mp hm with hm | hm
        · rw [List.mem_singleton.mp hm]; exact ⟨h1, hn⟩
        · exact hw.1 m hm, by rw [List.length_append]; have := hw.2; show 1 + w.length ≤ _; omega⟩
      by_cases i : (lineAt Ls n).form = "if"
      · obtain ⟨c2, W2, a2, b2, o2, r2⟩ := ih (lineAt Ls n).oth (by have := f2 i; omega) (by have := f2 i; omega)
        have m2 : cnt Ls (lineAt Ls n).oth ≤ cnt Ls (n + 1) := cnt_mono (by have := f2 i; omega)
        have q2 : 2 ^ cnt Ls (lineAt Ls n).oth ≤ 2 ^ cnt Ls (n + 1) := Nat.pow_le_pow_right (by decide) m2
        have ce := cnt_if h1 hn i
        refine ⟨c1 + c2 + 1, W2.map ([n] ++ ·) ++ W1.map ([n] ++ ·), by omega, ?_, ?_, ?_⟩
        · have x1 : (d + 1) * 2 ^ cnt Ls (lineAt Ls n).thn ≤ (d + 1) * 2 ^ cnt Ls (n + 1) := Nat.mul_le_mul_left _ q1
          have x2 : (d + 1) * 2 ^ cnt Ls (lineAt Ls n).oth ≤ (d + 1) * 2 ^ cnt Ls (n + 1) := Nat.mul_le_mul_left _ q2
          have x3 : 2 ^ cnt Ls n = 2 * 2 ^ cnt Ls (n + 1) := by rw [ce, Nat.pow_succ]; omega
          have x4 : (d + 1 + 1) * 2 ^ cnt Ls n = (d + 1) * 2 ^ cnt Ls (n + 1) + (d + 1) * 2 ^ cnt Ls (n + 1) + 2 ^ cnt Ls n := by
            rw [Nat.add_mul, x3, Nat.one_mul, Nat.two_mul, Nat.mul_add]
          omega
        · intro w hw
          rcases List.mem_append.mp hw with hw | hw
          · obtain ⟨v, hv, rfl⟩ := List.mem_map.mp hw
            exact ok v (o2 v hv)
          · obtain ⟨v, hv, rfl⟩ := List.mem_map.mp hw
            exact ok v (o1 v hv)
        · intro k wt ways way
          have mm : ∀ W : List (List Nat), W.map ((way ++ [n]) ++ ·) = (W.map ([n] ++ ·)).map (way ++ ·) := fun W => by
            rw [List.map_map]
            exact List.map_congr_left fun v _ => by show (way ++ [n]) ++ v = way ++ ([n] ++ v); rw [List.append_assoc]
          show waysM (k + (c1 + c2) + 1) Ls _ _ = _
          rw [waysM]
          rw [List.getLast?_concat]
          dsimp only
          have op : opensM (lineAt Ls n).form = true := by rw [i]; decide +kernel
          rw [if_neg c, if_neg (by show ¬ n = 0; omega), if_neg nw, if_pos op, List.dropLast_concat, ← Nat.add_assoc, r2, r1]
          rw [mm W1, mm W2, List.map_append, List.append_assoc]
      · refine ⟨c1 + 1, W1.map ([n] ++ ·), by omega, ?_, ?_, ?_⟩
        · have x0 : cnt Ls (n + 1) ≤ cnt Ls n := cnt_mono (by omega)
          have q0 : 2 ^ cnt Ls (lineAt Ls n).thn ≤ 2 ^ cnt Ls n := Nat.le_trans q1 (Nat.pow_le_pow_right (by decide) x0)
          have x1 : (d + 1) * 2 ^ cnt Ls (lineAt Ls n).thn ≤ (d + 1) * 2 ^ cnt Ls n := Nat.mul_le_mul_left _ q0
          have x2 : (d + 1 + 1) * 2 ^ cnt Ls n = (d + 1) * 2 ^ cnt Ls n + 2 ^ cnt Ls n := by rw [Nat.add_mul, Nat.one_mul]
          omega
        · intro w hw
          obtain ⟨v, hv, rfl⟩ := List.mem_map.mp hw
          exact ok v (o1 v hv)
        · intro k wt ways way
          have mm : ∀ W : List (List Nat), W.map ((way ++ [n]) ++ ·) = (W.map ([n] ++ ·)).map (way ++ ·) := fun W => by
            rw [List.map_map]
            exact List.map_congr_left fun v _ => by show (way ++ [n]) ++ v = way ++ ([n] ++ v); rw [List.append_assoc]
          show waysM (k + c1 + 1) Ls _ _ = _
          rw [waysM]
          rw [List.getLast?_concat]
          dsimp only
          have op : opensM (lineAt Ls n).form = false := by
            rcases plain.2 with e | e | e | e | ⟨e, _⟩
            · exact absurd e i
            all_goals rw [e]; decide +kernel
          rw [if_neg c, if_neg (by show ¬ n = 0; omega), if_neg nw, if_neg (by rw [op]; decide), List.dropLast_concat, r1]
          rw [mm W1]
theorem run_plain {kind : Str} {Ls : List LineM} (pl : ∀ n, 1 ≤ n → n ≤ Ls.length → plainF (lineAt Ls n)) : ∀ w : List Nat, (∀ m ∈ w, 1 ≤ m ∧ m ≤ Ls.length) → runW kind Ls 0 w (0, false) = true
  | [], _ => rfl
  | n :: r, h => by
    obtain ⟨h1, h2⟩ := h n List.mem_cons_self
    have p := pl n h1 h2
    have e : stepW kind Ls 0 (0, false) n = some (0, false) := by
      unfold stepW
      rcases p.2 with e | e | e | e | ⟨e, e2⟩
      · rw [e, if_neg (by decide +kernel), if_neg (by decide +kernel), if_neg (by decide +kernel)]
      · rw [e, if_neg (by decide +kernel), if_neg (by decide +kernel), if_neg (by decide +kernel)]
      · rw [e, if_neg (by decide +kernel), if_neg (by decide +kernel), if_neg (by decide +kernel)]
      · rw [e, if_neg (by decide +kernel), if_neg (by decide +kernel), if_neg (by decide +kernel)]
      · rw [e, if_neg (by decide +kernel), if_neg (by decide +kernel), if_pos (by decide +kernel), if_pos ⟨rfl, e2⟩, if_pos rfl]
    unfold runW
    rw [e]
    exact run_plain pl r fun m hm => h m (List.mem_cons_of_mem _ hm)
end Fm
namespace K40
open PySem PySem.Spec PyProof.Rows L2 Fm PySem.RingX
/-- a text without loops is taken, or has too many ifs -/
theorem prog_of {ts : List Str} {Ls0 : List LineM} (h : linesM ts = .ok Ls0) (S : Shape Ls0) (hl : Ls0.length ≤ 60) : ∃ (n : Nat) (Ls : List LineM), programM n ts = some (.ok Ls) ∧ ifsM Ls = ifsM Ls0 ∧
    (ifsM Ls0 ≤ 7 → ∀ k x, barsM k x ts = [] → QuietM k x ts Ls) := by
  obtain ⟨Lf, e, st, fw⟩ := Fm.Shape.linkEach (k := 100) Ls0.length 1 Ls0 S (by omega) (by omega) (by omega) (fun j a b => by omega)
  have hlen : Lf.length = Ls0.length := by
    have := congrArg List.length st
    rwa [List.length_map, List.length_map] at this
  have Sf := S.stat st.symm
  have outer : ∀ Ls : List LineM, Shape Ls → ifsM Ls = cnt Ls 1 := fun Ls S => by
    unfold ifsM Fm.cnt
    rw [show 1 - 1 = 0 from rfl, List.drop_zero]
    congr 1
    apply List.filter_congr
    intro l hlm
    obtain ⟨i, hi, e⟩ := List.getElem_of_mem hlm
    have p := (S (i + 1) (by omega) (by omega)).plain
    have e2 : lineAt Ls (i + 1) = l := by
      unfold lineAt
      rw [List.getD_eq_getElem?_getD, show i + 1 - 1 = i from rfl, List.getElem?_eq_getElem hi, e]
      rfl
    rw [e2] at p
    unfold outerM isIf
    rw [p.1]
    simp
  have c01 : cnt Lf 1 = cnt Ls0 1 := by
    have key : ∀ Ls : List LineM, cnt Ls 1 = ((Ls.map statL).filter fun q => decide (q.1 = ("if" : Str))).length := fun Ls => by
      unfold Fm.cnt
      rw [show 1 - 1 = 0 from rfl, List.drop_zero, List.filter_map, List.length_map]
      rfl
    rw [key, key, st]
  refine ⟨100, Lf, ?_, by rw [outer Lf Sf, outer Ls0 S, c01], fun h7 k x hb => ⟨hb, ?_⟩⟩
  · unfold programM
    rw [h]
    dsimp only
    rw [e]
    rfl
  · have pl : ∀ n, 1 ≤ n → n ≤ Lf.length → plainF (lineAt Lf n) := fun n a b => (Sf n a b).plain
    obtain ⟨c, W, c1, c2, o, r⟩ := ways_from pl (fun n a b => fw n a (by omega)) Lf.length 1 (Nat.le_refl _) (by omega)
    have r0 := r 1 [] [] []
    refine ⟨1 + c, W.map ([] ++ ·), ?_, ?_, ?_⟩
    · have x1 : cnt Lf 1 ≤ 7 := by rw [c01, ← outer Ls0 S]; exact h7
      have x2 : 2 ^ cnt Lf 1 ≤ 2 ^ 7 := Nat.pow_le_pow_right (by decide) x1
      have x3 : (Lf.length + 1) * 2 ^ cnt Lf 1 ≤ 61 * 2 ^ 7 := Nat.mul_le_mul (by omega) x2
      omega
    · refine r0.trans ?_
      unfold waysM
      rfl
    · intro wy hw
      obtain ⟨v, hv, rfl⟩ := List.mem_map.mp hw
      obtain ⟨v1, v2⟩ := o v hv
      refine ⟨⟨?_, v1⟩, by show v.length ≤ _; omega⟩
      have nof : (v.filter (walkB Lf)).length = 0 := by
        rw [List.length_eq_zero_iff, List.filter_eq_nil_iff]
        intro m hm
        have p := pl m (v1 m hm).1 (v1 m hm).2
        unfold walkB
        rcases p.2 with e | e | e | e | ⟨e, _⟩ <;> rw [e] <;> decide +kernel
      show runW k Lf (v.filter (walkB Lf)).length v (0, false) = true
      rw [nof]
      exact run_plain pl v v1
end K40

/-! ## The lines that the law draws -/
namespace Fm
open PySem PySem.Spec PyProof.Rows L2
def stepsT (i : Int) : Str := ("if steps < " : Str) ++ (toString i : String)
def blkT (i : Int) : Nat → List Str
  | 0 => ["low = none"]
  | 1 => ["top = low"]
  | 2 => ["out = low"]
  | 3 => ["if low is none", "out = top", "end"]
  | 4 => [stepsT i, "else", "quit", "end"]
  | _ => ["quit"]
def tI : List Part := (testM ["low", "is", "none"]).getD []
def tS (i : Int) : List Part := (testM ((Txt.split (stepsT i) " ").drop 1)).getD []
def setL (a b : Str) : LineM := mkLine "set" [a, b] []
theorem L0 : lineM "low = none" false = some (setL "low" "none") := by decide +kernel
theorem L1 : lineM "top = low" false = some (setL "top" "low") := by decide +kernel
theorem L2_ : lineM "out = low" false = some (setL "out" "low") := by decide +kernel
theorem LI : lineM "if low is none" false = some (mkLine "if" [] tI) := by decide +kernel
theorem LO : lineM "out = top" false = some (setL "out" "top") := by decide +kernel
theorem LQ : lineM "quit" false = some (mkLine "quit" [] []) := by decide +kernel
theorem LS_ : ∀ i : Fin 60, lineM (stepsT ((i.val : Int) + 1)) false = some (mkLine "if" [] (tS ((i.val : Int) + 1))) ∧ isTurn (stepsT ((i.val : Int) + 1)) = false := by decide +kernel
theorem LS {i : Int} (h1 : 1 ≤ i) (h2 : i ≤ 60) : lineM (stepsT i) false = some (mkLine "if" [] (tS i)) ∧ isTurn (stepsT i) = false := by
  have := LS_ ⟨(i - 1).toNat, by omega⟩
  rwa [show (((i - 1).toNat : Nat) : Int) + 1 = i by omega] at this
end Fm

namespace Fm
open PySem PySem.Spec PyProof.Rows L2
theorem lineAt_app {A B : List LineM} {x : LineM} : lineAt (A ++ x :: B) (A.length + 1) = x := by
  unfold lineAt
  rw [List.getD_eq_getElem?_getD, Nat.add_sub_cancel, List.getElem?_append_right (Nat.le_refl _), Nat.sub_self]
  rfl
theorem lineAt_left {A B : List LineM} {n : Nat} (h1 : 1 ≤ n) (h : n ≤ A.length) : lineAt (A ++ B) n = lineAt A n := by
  unfold lineAt
  rw [List.getD_eq_getElem?_getD, List.getD_eq_getElem?_getD, List.getElem?_append_left (by omega)]
theorem lineAt_right {A B : List LineM} {j : Nat} (h1 : 1 ≤ j) : lineAt (A ++ B) (A.length + j) = lineAt B j := by
  unfold lineAt
  rw [List.getD_eq_getElem?_getD, List.getD_eq_getElem?_getD, List.getElem?_append_right (by omega), show A.length + j - 1 - A.length = j - 1 by omega]
theorem set_app {A B : List LineM} {x y : LineM} : (A ++ x :: B).set (A.length + 1 - 1) y = A ++ y :: B := by
  rw [Nat.add_sub_cancel, List.set_append_right _ _ (Nat.le_refl _), Nat.sub_self]
  rfl
theorem step_line {t : Str} {n : Nat} {Ls : List LineM} {op : List Nat} {l : LineM} (ht : isTurn t = false) (ha : aroundM Ls op = 0) (hl : lineM t false = some l) (h0 : l.loop = 0) : stepM t n Ls op = some (Ls ++ [l], openedM l.form n op) := by
  unfold stepM oneM
  rw [ha, if_neg (by rw [ht]; decide), show decide ((0 : Nat) ≠ 0) = false from rfl, hl]
  show some (Ls ++ [{ l with loop := 0 }], _) = _
  rw [show ({ l with loop := 0 } : LineM) = l by rw [← h0]]
theorem step_end {n k : Nat} {Ls : List LineM} (ha : aroundM Ls [k] = 0) : stepM "end" n Ls [k] = some (Ls.set (k - 1) { lineAt Ls k with ending := n } ++ [{ mkLine "end" [] [] with opener := k }], []) := by
  unfold stepM oneM turnM
  rw [ha, if_pos (by decide +kernel)]
  rfl
theorem step_else {n k : Nat} {Ls : List LineM} (ha : aroundM Ls [k] = 0) (hf : (lineAt Ls k).form = "if") (ht : (lineAt Ls k).turn = 0) : stepM "else" n Ls [k] = some (Ls.set (k - 1) { lineAt Ls k with turn := n } ++ [{ mkLine "else" [] [] with opener := k }], [k]) := by
  unfold stepM oneM turnM
  rw [ha, if_pos (by decide +kernel)]
  dsimp only [List.getLast?_singleton]
  rw [if_neg (by decide +kernel), if_pos ⟨hf, ht⟩]
  rfl
theorem around_if {Ls : List LineM} {k : Nat} (hf : (lineAt Ls k).form = "if") : aroundM Ls [k] = 0 := by
  unfold aroundM
  rw [if_neg (by rw [hf]; decide +kernel)]
  rfl
/-- the lines as they are read, o of them ahead -/
def rowB (i : Int) (o : Nat) : Nat → List LineM
  | 0 => [setL "low" "none"]
  | 1 => [setL "top" "low"]
  | 2 => [setL "out" "low"]
  | 3 => [{ mkLine "if" [] tI with ending := o + 3 }, setL "out" "top", { mkLine "end" [] [] with opener := o + 1 }]
  | 4 => [{ mkLine "if" [] (tS i) with turn := o + 2, ending := o + 4 }, { mkLine "else" [] [] with opener := o + 1 }, mkLine "quit" [] [], { mkLine "end" [] [] with opener := o + 1 }]
  | _ => [mkLine "quit" [] []]
theorem rowB_len (i : Int) (o b : Nat) : (rowB i o b).length = (blkT i b).length := by
  match b with
  | 0 => rfl
  | 1 => rfl
  | 2 => rfl
  | 3 => rfl
  | 4 => rfl
  | _ + 5 => rfl
theorem go_one {t : Str} {rest : List Str} {n : Nat} {Ls : List LineM} {op : List Nat} {q : List LineM × List Nat} (h : stepM t n Ls op = some q) : goM (t :: rest) n Ls op = goM rest (n + 1) q.1 q.2 := by
  show (match stepM t n Ls op with | none => _ | some q => goM rest (n + 1) q.1 q.2) = _
  rw [h]
theorem go_blk {i : Int} (h1 : 1 ≤ i) (h2 : i ≤ 60) (Ls : List LineM) (b : Nat) (rest : List Str) : goM (blkT i b ++ rest) (Ls.length + 1) Ls [] = goM rest (Ls.length + (blkT i b).length + 1) (Ls ++ rowB i Ls.length b) [] := by
  have one : ∀ (t : Str) (l : LineM), isTurn t = false → lineM t false = some l → l.loop = 0 → opensM l.form = false → l.form ≠ "end" → goM ([t] ++ rest) (Ls.length + 1) Ls [] = goM rest (Ls.length + 1 + 1) (Ls ++ [l]) [] := fun t l a c d e g => by
    refine (go_one (step_line a rfl c d)).trans ?_
    unfold openedM
    rw [if_neg g, if_neg (by rw [e]; decide)]
    rfl
  match b with
  | 0 => exact one _ _ (by decide +kernel) L0 rfl (by decide +kernel) (by decide +kernel)
  | 1 => exact one _ _ (by decide +kernel) L1 rfl (by decide +kernel) (by decide +kernel)
  | 2 => exact one _ _ (by decide +kernel) L2_ rfl (by decide +kernel) (by decide +kernel)
  | 3 =>
    refine (go_one (step_line (by decide +kernel) rfl LI rfl)).trans ?_
    rw [show openedM (mkLine "if" [] tI).form (Ls.length + 1) [] = [Ls.length + 1] by show openedM "if" _ _ = _; unfold openedM; rw [if_neg (by decide +kernel), if_pos (by decide +kernel)]; rfl]
    have f1 : (lineAt (Ls ++ [mkLine "if" [] tI]) (Ls.length + 1)).form = "if" := by rw [lineAt_app]; rfl
    refine (go_one (step_line (by decide +kernel) (around_if f1) LO rfl)).trans ?_
    rw [show openedM (setL "out" "top").form (Ls.length + 1 + 1) [Ls.length + 1] = [Ls.length + 1] by unfold openedM; rw [if_neg (by decide +kernel), if_neg (by decide +kernel)]]
    rw [show Ls ++ [mkLine "if" [] tI] ++ [setL "out" "top"] = Ls ++ mkLine "if" [] tI :: [setL "out" "top"] by rw [List.append_assoc]; rfl]
    have f2 : (lineAt (Ls ++ mkLine "if" [] tI :: [setL "out" "top"]) (Ls.length + 1)).form = "if" := by rw [lineAt_app]; rfl
    refine (go_one (step_end (around_if f2))).trans ?_
    rw [lineAt_app, set_app, List.append_assoc]
    rfl
  | 4 =>
    obtain ⟨s1, s2⟩ := LS h1 h2
    refine (go_one (step_line s2 rfl s1 rfl)).trans ?_
    rw [show openedM (mkLine "if" [] (tS i)).form (Ls.length + 1) [] = [Ls.length + 1] by show openedM "if" _ _ = _; unfold openedM; rw [if_neg (by decide +kernel), if_pos (by decide +kernel)]; rfl]
    have f1 : (lineAt (Ls ++ [mkLine "if" [] (tS i)]) (Ls.length + 1)).form = "if" := by rw [lineAt_app]; rfl
    refine (go_one (step_else (around_if f1) f1 (by rw [lineAt_app]; rfl))).trans ?_
    rw [lineAt_app, set_app, List.append_assoc]
    generalize hx : ({ mkLine "if" [] (tS i) with turn := Ls.length + 1 + 1 } : LineM) = x
    have xf : x.form = "if" := by rw [← hx]; rfl
    generalize hy : ({ mkLine "else" [] [] with opener := Ls.length + 1 } : LineM) = y
    have f2 : (lineAt (Ls ++ x :: [y]) (Ls.length + 1)).form = "if" := by rw [lineAt_app]; exact xf
    refine (go_one (step_line (by decide +kernel) (around_if f2) LQ rfl)).trans ?_
    rw [show openedM (mkLine "quit" [] []).form (Ls.length + 1 + 1 + 1) [Ls.length + 1] = [Ls.length + 1] by unfold openedM; rw [if_neg (by decide +kernel), if_neg (by decide +kernel)]]
    rw [show Ls ++ [x, y] ++ [mkLine "quit" [] []] = Ls ++ x :: [y, mkLine "quit" [] []] by rw [List.append_assoc]; rfl]
    have f3 : (lineAt (Ls ++ x :: [y, mkLine "quit" [] []]) (Ls.length + 1)).form = "if" := by rw [lineAt_app]; exact xf
    refine (go_one (step_end (around_if f3))).trans ?_
    rw [lineAt_app, set_app, List.append_assoc, ← hx, ← hy]
    rfl
  | _ + 5 => exact one _ _ (by decide +kernel) LQ rfl (by decide +kernel) (by decide +kernel)
end Fm

namespace Fm
open PySem PySem.Spec PyProof.Rows L2
def txtB (i : Int) (bs : List Nat) : List Str := bs.flatMap (blkT i)
def rowsB (i : Int) : List Nat → Nat → List LineM
  | [], _ => []
  | b :: r, o => rowB i o b ++ rowsB i r (o + (blkT i b).length)
theorem rowsB_len (i : Int) : ∀ (bs : List Nat) (o : Nat), (rowsB i bs o).length = (txtB i bs).length
  | [], _ => rfl
  | b :: r, o => by
    show (rowB i o b ++ rowsB i r _).length = (blkT i b ++ txtB i r).length
    rw [List.length_append, List.length_append, rowB_len, rowsB_len i r]
theorem go_all {i : Int} (h1 : 1 ≤ i) (h2 : i ≤ 60) : ∀ (bs : List Nat) (Ls : List LineM), goM (txtB i bs) (Ls.length + 1) Ls [] = .ok (Ls ++ rowsB i bs Ls.length, [])
  | [], Ls => by
    show Except.ok (Ls, []) = .ok (Ls ++ [], [])
    rw [List.append_nil]
  | b :: r, Ls => by
    show goM (blkT i b ++ txtB i r) _ _ _ = _
    rw [go_blk h1 h2]
    have e : (Ls ++ rowB i Ls.length b).length = Ls.length + (blkT i b).length := by rw [List.length_append, rowB_len]
    rw [← e, go_all h1 h2 r, e]
    show _ = Except.ok (Ls ++ (rowB i Ls.length b ++ rowsB i r _), [])
    rw [List.append_assoc]
theorem lines_all {i : Int} (h1 : 1 ≤ i) (h2 : i ≤ 60) (bs : List Nat) : linesM (txtB i bs) = .ok (rowsB i bs 0) := by
  unfold linesM
  have := go_all h1 h2 bs []
  rw [show goM (txtB i bs) 1 [] [] = _ from this]
  rfl
/-- a block behind good lines -/
theorem shape_blk {A : List LineM} (S : Shape A) (i : Int) (b : Nat) : Shape (A ++ rowB i A.length b) := by
  intro n h1 h2
  rw [List.length_append] at h2
  by_cases c : n ≤ A.length
  · obtain ⟨a1, a2, a3⟩ := S n h1 c
    refine ⟨by rw [lineAt_left h1 c]; exact a1, ?_, by rw [lineAt_left h1 c]; exact a3⟩
    rw [lineAt_left h1 c]
    intro t
    obtain ⟨b1, b2, b3, b4⟩ := a2 t
    rw [lineAt_left b1 b2]
    exact ⟨b1, by rw [List.length_append]; omega, b3, b4⟩
  · obtain ⟨j, rfl⟩ : ∃ j, n = A.length + j := ⟨n - A.length, by omega⟩
    have j1 : 1 ≤ j := by omega
    have e : lineAt (A ++ rowB i A.length b) (A.length + j) = lineAt (rowB i A.length b) j := lineAt_right j1
    have op : lineAt (A ++ rowB i A.length b) (A.length + 1) = lineAt (rowB i A.length b) 1 := lineAt_right (Nat.le_refl _)
    have one : ∀ l : LineM, rowB i A.length b = [l] → plainF l → isTurn l.form = false → l.form ≠ "if" → LineOk (A ++ rowB i A.length b) (A.length + j) := fun l el p t f => by
      have je : j = 1 := by rw [el] at h2; have h2 : A.length + j ≤ A.length + 1 := h2; omega
      subst je
      have e2 : lineAt (A ++ rowB i A.length b) (A.length + 1) = l := by rw [e, el]; rfl
      refine ⟨by rw [e2]; exact p, ?_, ?_⟩
      · rw [e2, t]; intro z; cases z
      · rw [e2]; intro z; exact absurd z f
    match b, e, op, one, h2 with
    | 0, _, _, one, _ => exact one _ rfl ⟨rfl, .inr (.inr (.inr (.inr ⟨rfl, rfl⟩)))⟩ (by decide +kernel) (by decide +kernel)
    | 1, _, _, one, _ => exact one _ rfl ⟨rfl, .inr (.inr (.inr (.inr ⟨rfl, rfl⟩)))⟩ (by decide +kernel) (by decide +kernel)
    | 2, _, _, one, _ => exact one _ rfl ⟨rfl, .inr (.inr (.inr (.inr ⟨rfl, rfl⟩)))⟩ (by decide +kernel) (by decide +kernel)
    | 3, e, op, _, h2 =>
      have h2 : A.length + j ≤ A.length + 3 := h2
      have hl : (A ++ rowB i A.length 3).length = A.length + 3 := by rw [List.length_append]; rfl
      have js : j = 1 ∨ j = 2 ∨ j = 3 := by omega
      rcases js with rfl | rfl | rfl
      · have e2 : lineAt (A ++ rowB i A.length 3) (A.length + 1) = { mkLine "if" [] tI with ending := A.length + 3 } := e
        refine ⟨by rw [e2]; exact ⟨rfl, .inl rfl⟩, ?_, ?_⟩
        · rw [e2]; intro z; exact absurd (show isTurn "if" = true from z) (by decide +kernel)
        · rw [e2]; exact fun _ => ⟨fun _ => by show A.length + 1 < A.length + 3; omega, fun z => absurd rfl z⟩
      · have e2 : lineAt (A ++ rowB i A.length 3) (A.length + 2) = setL "out" "top" := e
        refine ⟨by rw [e2]; exact ⟨rfl, .inr (.inr (.inr (.inr ⟨rfl, rfl⟩)))⟩, ?_, ?_⟩
        · rw [e2]; intro z; exact absurd (show isTurn "set" = true from z) (by decide +kernel)
        · rw [e2]; intro z; exact absurd (show ("set" : Str) = "if" from z) (by decide +kernel)
      · have e2 : lineAt (A ++ rowB i A.length 3) (A.length + 3) = { mkLine "end" [] [] with opener := A.length + 1 } := e
        have e1 : lineAt (A ++ rowB i A.length 3) (A.length + 1) = { mkLine "if" [] tI with ending := A.length + 3 } := op
        refine ⟨by rw [e2]; exact ⟨rfl, .inr (.inr (.inr (.inl rfl)))⟩, ?_, ?_⟩
        · rw [e2]
          intro _
          show 1 ≤ A.length + 1 ∧ A.length + 1 ≤ _ ∧ (lineAt (A ++ rowB i A.length 3) (A.length + 1)).form = "if" ∧ A.length + 3 ≤ (lineAt (A ++ rowB i A.length 3) (A.length + 1)).ending
          rw [e1, hl]
          exact ⟨by omega, by omega, rfl, Nat.le_refl _⟩
        · rw [e2]; intro z; exact absurd (show ("end" : Str) = "if" from z) (by decide +kernel)
    | 4, e, op, _, h2 =>
      have h2 : A.length + j ≤ A.length + 4 := h2
      have hl : (A ++ rowB i A.length 4).length = A.length + 4 := by rw [List.length_append]; rfl
      have e1 : lineAt (A ++ rowB i A.length 4) (A.length + 1) = { mkLine "if" [] (tS i) with turn := A.length + 2, ending := A.length + 4 } := op
      have js : j = 1 ∨ j = 2 ∨ j = 3 ∨ j = 4 := by omega
      rcases js with rfl | rfl | rfl | rfl
      · refine ⟨by rw [e1]; exact ⟨rfl, .inl rfl⟩, ?_, ?_⟩
        · rw [e1]; intro z; exact absurd (show isTurn "if" = true from z) (by decide +kernel)
        · rw [e1]; exact fun _ => ⟨fun z => absurd (show A.length + 2 = 0 from z) (by omega), fun _ => by show A.length + 1 ≤ A.length + 2; omega⟩
      · have e2 : lineAt (A ++ rowB i A.length 4) (A.length + 2) = { mkLine "else" [] [] with opener := A.length + 1 } := e
        refine ⟨by rw [e2]; exact ⟨rfl, .inr (.inr (.inl rfl))⟩, ?_, ?_⟩
        · rw [e2]
          intro _
          show 1 ≤ A.length + 1 ∧ A.length + 1 ≤ _ ∧ (lineAt (A ++ rowB i A.length 4) (A.length + 1)).form = "if" ∧ A.length + 2 ≤ (lineAt (A ++ rowB i A.length 4) (A.length + 1)).ending
          rw [e1, hl]
          exact ⟨by omega, by omega, rfl, by show A.length + 2 ≤ A.length + 4; omega⟩
        · rw [e2]; intro z; exact absurd (show ("else" : Str) = "if" from z) (by decide +kernel)
      · have e2 : lineAt (A ++ rowB i A.length 4) (A.length + 3) = mkLine "quit" [] [] := e
        refine ⟨by rw [e2]; exact ⟨rfl, .inr (.inl rfl)⟩, ?_, ?_⟩
        · rw [e2]; intro z; exact absurd (show isTurn "quit" = true from z) (by decide +kernel)
        · rw [e2]; intro z; exact absurd (show ("quit" : Str) = "if" from z) (by decide +kernel)
      · have e2 : lineAt (A ++ rowB i A.length 4) (A.length + 4) = { mkLine "end" [] [] with opener := A.length + 1 } := e
        refine ⟨by rw [e2]; exact ⟨rfl, .inr (.inr (.inr (.inl rfl)))⟩, ?_, ?_⟩
        · rw [e2]
          intro _
          show 1 ≤ A.length + 1 ∧ A.length + 1 ≤ _ ∧ (lineAt (A ++ rowB i A.length 4) (A.length + 1)).form = "if" ∧ A.length + 4 ≤ (lineAt (A ++ rowB i A.length 4) (A.length + 1)).ending
          rw [e1, hl]
          exact ⟨by omega, by omega, rfl, Nat.le_refl _⟩
        · rw [e2]; intro z; exact absurd (show ("end" : Str) = "if" from z) (by decide +kernel)
    | _ + 5, _, _, one, _ => exact one _ rfl ⟨rfl, .inr (.inl rfl)⟩ (by decide +kernel) (by decide +kernel)
theorem shape_all (i : Int) : ∀ (bs : List Nat) (A : List LineM), Shape A → Shape (A ++ rowsB i bs A.length)
  | [], A, S => by
    show Shape (A ++ [])
    rw [List.append_nil]; exact S
  | b :: r, A, S => by
    have := shape_all i r _ (shape_blk S i b)
    rw [List.length_append, rowB_len, List.append_assoc] at this
    exact this
theorem shape_rows (i : Int) (bs : List Nat) : Shape (rowsB i bs 0) := shape_all i bs [] fun n h1 h2 => by
  have h2 : n ≤ 0 := h2
  omega
def ifB_ (b : Nat) : Nat := if b = 3 ∨ b = 4 then 1 else 0
theorem ifs_row (i : Int) (o b : Nat) : ifsM (rowB i o b) = ifB_ b := by
  match b with
  | 0 => rfl
  | 1 => rfl
  | 2 => rfl
  | 3 => rfl
  | 4 => rfl
  | _ + 5 => rfl
theorem ifs_rows (i : Int) : ∀ (bs : List Nat) (o : Nat), ifsM (rowsB i bs o) = (bs.map ifB_).sum
  | [], _ => rfl
  | b :: r, o => by
    have h := ifs_row i o b
    have h2 := ifs_rows i r (o + (blkT i b).length)
    unfold ifsM at h h2 ⊢
    show ((rowB i o b ++ rowsB i r _).filter outerM).length = _
    rw [List.filter_append, List.length_append, h, h2]
    rfl
end Fm

namespace Fm
open PySem PySem.Spec PyProof.Rows L2
def noB (t : Str) : Bool := (["stone", "first", "key"] : List Str).all fun b => !inV (.str b) ((Txt.split t " ").map V.str)
def goodT (t : Str) : Bool := (t.cps.toList.all fun c => decide (c < 128) && decide (c ≠ 10)) && (decide (t.length ≤ 50) && (decide (t ≠ "") && noB t))
theorem good_steps : ∀ i : Fin 60, goodT (stepsT ((i.val : Int) + 1)) = true := by decide +kernel
theorem good_blk {i : Int} (h1 : 1 ≤ i) (h2 : i ≤ 60) (b : Nat) : ∀ t ∈ blkT i b, goodT t = true := by
  have gs : goodT (stepsT i) = true := by
    have := good_steps ⟨(i - 1).toNat, by omega⟩
    rwa [show (((i - 1).toNat : Nat) : Int) + 1 = i by omega] at this
  have all : ∀ l : List Str, l.all goodT = true → ∀ t ∈ l, goodT t = true := fun l h => List.all_eq_true.mp h
  match b with
  | 0 => exact all ["low = none"] (by decide +kernel)
  | 1 => exact all ["top = low"] (by decide +kernel)
  | 2 => exact all ["out = low"] (by decide +kernel)
  | 3 => exact all ["if low is none", "out = top", "end"] (by decide +kernel)
  | 4 =>
    intro t ht
    rcases List.mem_cons.mp ht with rfl | ht
    · exact gs
    · exact all ["else", "quit", "end"] (by decide +kernel) t ht
  | _ + 5 => exact all ["quit"] (by decide +kernel)
theorem good_txt {i : Int} (h1 : 1 ≤ i) (h2 : i ≤ 60) (bs : List Nat) : ∀ t ∈ txtB i bs, goodT t = true := fun t ht => by
  obtain ⟨b, _, h⟩ := List.mem_flatMap.mp ht
  exact good_blk h1 h2 b t h
theorem good_out {t : Str} (h : goodT t = true) : (∀ c ∈ t.cps.toList, c < 128 ∧ c ≠ 10) ∧ t.length ≤ 50 ∧ t ≠ "" ∧ noB t = true := by
  unfold goodT at h
  simp only [Bool.and_eq_true, List.all_eq_true, decide_eq_true_eq] at h
  exact ⟨h.1, h.2.1, h.2.2.1, h.2.2.2⟩
end Fm
namespace K40
open PySem PySem.Spec PyProof.Rows L2 Fm PySem.RingX
theorem join_ok : ∀ l : List Str, (∀ t ∈ l, goodT t = true) → (∀ c ∈ (Str.join "\n" l).cps.toList, c < 128) ∧ (Str.join "\n" l).length ≤ 51 * l.length
  | [], _ => ⟨fun c hc => (by simp [Str.join, Str.empty] at hc), Nat.zero_le _⟩
  | [x], h => by
    obtain ⟨g1, g2, _⟩ := good_out (h x (List.mem_singleton.mpr rfl))
    exact ⟨fun c hc => (g1 c hc).1, by show x.length ≤ 51 * 1; omega⟩
  | x :: y :: r, h => by
    obtain ⟨g1, g2, _⟩ := good_out (h x List.mem_cons_self)
    obtain ⟨i1, i2⟩ := join_ok (y :: r) fun t ht => h t (List.mem_cons_of_mem _ ht)
    have e : Str.join "\n" (x :: y :: r) = x ++ "\n" ++ Str.join "\n" (y :: r) := rfl
    rw [e]
    refine ⟨fun c hc => ?_, ?_⟩
    · rw [cps_append, cps_append] at hc
      rcases List.mem_append.mp hc with hc | hc
      · rcases List.mem_append.mp hc with hc | hc
        · exact (g1 c hc).1
        · have : ∀ c ∈ ("\n" : Str).cps.toList, c < 128 := by decide +kernel
          exact this c hc
      · exact i1 c hc
    · rw [Str.length_append, Str.length_append, List.length_cons]
      have : ("\n" : Str).length = 1 := by decide +kernel
      omega
theorem lines_join {l : List Str} (h : ∀ t ∈ l, goodT t = true) : linesOfM (Txt.join "\n" l) = l := by
  unfold linesOfM
  cases l with
  | nil => exact if_pos (by decide +kernel)
  | cons a r =>
    have sj : Txt.split (Txt.join "\n" (a :: r)) "\n" = a :: r := by
      refine TL.split_join (s := 10) (S := []) (by decide +kernel) (by decide +kernel) (List.cons_ne_nil _ _) fun p hp => ?_
      intro m
      exact ((good_out (h p hp)).1 10 m).2 rfl
    by_cases c : Txt.join "\n" (a :: r) = ""
    · exfalso
      rw [c] at sj
      have e : Txt.split ("" : Str) "\n" = [("" : Str)] := by decide +kernel
      rw [e] at sj
      injection sj with s1 _
      exact (good_out (h a List.mem_cons_self)).2.2.1 s1.symm
    · rw [if_neg c, sj]
theorem bars_none {k x : Str} {ts : List Str} (h : ∀ t ∈ ts, goodT t = true) : barsM k x ts = [] := by
  have one : ∀ t, noB t = true → barM k x t = false := fun t ht => by
    unfold noB at ht
    unfold barM
    rw [List.any_eq_false]
    intro b hb z
    have hb3 : b ∈ (["stone", "first", "key"] : List Str) := by
      unfold barredM at hb
      rcases List.mem_append.mp hb with hb | hb
      · split at hb
        · cases hb
        · rw [List.mem_singleton.mp hb]; exact List.mem_cons_self
      · split at hb
        · exact List.mem_cons_of_mem _ hb
        · cases hb
    have := List.all_eq_true.mp ht b hb3
    rw [z] at this
    cases this
  have to : ∀ n, barTo k x ts n = [] := by
    intro n
    induction n with
    | zero => rfl
    | succ n ih =>
      unfold barTo
      rw [ih, List.nil_append]
      cases e : ts[n]? with
      | none => rfl
      | some t =>
        show (if barM k x t = true then [n + 1] else []) = []
        rw [if_neg (by rw [one t (good_out (h t (List.mem_of_getElem? e))).2.2.2]; decide)]
  exact to _
/-- a drawn text is made -/
theorem told_drawn {K : PySem.W.Frag} {H : Hp} {k x : Str} (hk : kindM k = true) (hx : wayM x = true) {i : Int} (h1 : 1 ≤ i) (h2 : i ≤ 60) {bs : List Nat} (hl : (txtB i bs).length ≤ 60) (hi : (bs.map ifB_).sum ≤ 7) :
    ToldC K (.str k) (.str x) (Txt.join "\n" (txtB i bs)) H [.str "made", .str k, .str x, .str (Txt.join "\n" (txtB i bs)), .int (txtB i bs).length] := by
  have g := good_txt h1 h2 bs
  have lj := lines_join g
  obtain ⟨j1, j2⟩ := join_ok _ g
  have jl : (Txt.join "\n" (txtB i bs)).length ≤ 51 * (txtB i bs).length := by rw [TL.join_eq]; exact j2
  have ja : Asc (Txt.join "\n" (txtB i bs)) := ⟨by rw [TL.join_eq]; exact j1, by omega⟩
  have rl := rowsB_len i bs 0
  obtain ⟨n, Ls, e1, e2, e3⟩ := prog_of (lines_all h1 h2 bs) (shape_rows i bs) (by omega)
  have ic := ifs_rows i bs 0
  refine .inr ⟨k, rfl, hk, .inr ⟨x, rfl, hx, ja, by omega, by omega, by rw [lj]; omega, .inr ⟨by rw [lj]; exact hl, n, .ok Ls, by rw [lj]; exact e1, .inr ⟨Ls, rfl, .inr ⟨by omega, ?_, by rw [lj]⟩⟩⟩⟩⟩
  rw [lj]
  exact e3 (by omega) k x (bars_none g)
end K40

namespace K40
open PySem PySem.Spec PyProof.Rows L2 Fm PySem.RingX
/-- the five blocks stand at q -/
structure PoolAt (H : Hp) (q : Addr) (i : Int) (l : Nat → Addr) : Prop where
  hq : H q = some (.lst [.ref (l 0), .ref (l 1), .ref (l 2), .ref (l 3), .ref (l 4)])
  hl : ∀ j, j < 5 → H (l j) = some (.lst ((blkT i j).map V.str))
theorem PoolAt.but {H H' : Hp} {q b : Addr} {i : Int} {l : Nat → Addr} {kvs : List (Key × V)} (P : PoolAt H q i l) (hb : H b = some (.dK kvs)) (s : SameBut b H H') : PoolAt H' q i l :=
  ⟨s _ _ (ne_of P.hq hb (fun z => nomatch z)) P.hq, fun j hj => s _ _ (ne_of (P.hl j hj) hb (fun z => nomatch z)) (P.hl j hj)⟩
theorem PoolAt.same {H H' : Hp} {q : Addr} {i : Int} {l : Nat → Addr} (P : PoolAt H q i l) (s : Same H H') : PoolAt H' q i l := ⟨s _ _ P.hq, fun j hj => s _ _ (P.hl j hj)⟩
/-- at most seven blocks with an if -/
def Drawn (bs : List Nat) : Prop := bs.length ≤ 15 ∧ ∀ j b, bs[j]? = some b → b < 5 ∧ (7 ≤ j → b < 3)
theorem drawn_sums : ∀ (bs : List Nat) (n : Nat), (∀ j b, bs[j]? = some b → b < 5 ∧ (n ≤ j → b < 3)) → (bs.map ifB_).sum ≤ n ∧ ∀ i, (txtB i bs).length ≤ bs.length + 3 * n
  | [], n, _ => ⟨Nat.zero_le _, fun i => Nat.zero_le _⟩
  | b :: r, n, h => by
    obtain ⟨h1, h2⟩ := h 0 b rfl
    have len : ∀ (i : Int) (b : Nat), b < 5 → (blkT i b).length ≤ 1 + 3 * (ifB_ b) := fun i b hb => by
      match b, hb with
      | 0, _ => exact Nat.le_refl 1
      | 1, _ => exact Nat.le_refl 1
      | 2, _ => exact Nat.le_refl 1
      | 3, _ => exact (by decide : 3 ≤ 4)
      | 4, _ => exact Nat.le_refl _
    cases n with
    | zero =>
      have h3 := h2 (Nat.le_refl _)
      have ifz : ifB_ b = 0 := by
        unfold ifB_
        rw [if_neg (by omega)]
      obtain ⟨i1, i2⟩ := drawn_sums r 0 fun j c e => ⟨(h (j + 1) c e).1, fun _ => (h (j + 1) c e).2 (Nat.zero_le _)⟩
      refine ⟨?_, fun i => ?_⟩
      · rw [List.map_cons, List.sum_cons, ifz]; omega
      · show (blkT i b ++ txtB i r).length ≤ _
        have := len i b h1
        have := i2 i
        rw [List.length_append, List.length_cons]
        omega
    | succ n =>
      obtain ⟨i1, i2⟩ := drawn_sums r n fun j c e => ⟨(h (j + 1) c e).1, fun hj => (h (j + 1) c e).2 (by omega)⟩
      have if1 : ifB_ b ≤ 1 := by unfold ifB_; split <;> decide
      refine ⟨?_, fun i => ?_⟩
      · rw [List.map_cons, List.sum_cons]; omega
      · show (blkT i b ++ txtB i r).length ≤ _
        have := len i b h1
        have := i2 i
        rw [List.length_append, List.length_cons]
        omega
theorem Drawn.sums {bs : List Nat} (d : Drawn bs) : (bs.map ifB_).sum ≤ 7 ∧ ∀ i, (txtB i bs).length ≤ 36 := by
  obtain ⟨h1, h2⟩ := drawn_sums bs 7 d.2
  exact ⟨h1, fun i => by have := h2 i; have := d.1; omega⟩
theorem txt_snoc (i : Int) (bs : List Nat) (b : Nat) : txtB i (bs ++ [b]) = txtB i bs ++ blkT i b := by
  unfold txtB
  rw [List.flatMap_append]
  simp
section
variable {P : Program} {w : World} {K : PySem.W.Frag} {mg : Str → Option Value} {base : Heap}
def spLL : Sp := fun vs H Q _ => ∃ (b c : Addr) (ns : List Int) (ct : Int), vs = [.ref b] ∧ BagAt H b c ns ct ∧ 0 ≤ ct ∧ ct < 500000 ∧ ns.length < 1000 ∧
  ∀ (i : Int) (bs : List Nat) (p : Addr) (H' : Hp) (ct' : Int), 1 ≤ i → i ≤ 60 → Drawn bs → 0 ≤ ct' → ct' < ct + 100 → BagAt H' b c ns ct' → SameBut b H H' → H p = none → H' p = some (.lst ((txtB i bs).map V.str)) → Q (.ref p) H'
theorem scLL : FnScope ["bag", "pool", "found", "k"] ["bag"] (defScope s__law_lines) := ⟨rfl, rfl, rfl, by decide +kernel, rfl, by decide +kernel, by decide +kernel⟩
theorem ok_ll {f fD : Addr} {fd fdD : FuncData} (F : Fun K "_law_lines" "_law_lines" s__law_lines f fd) (TG : GB mg) (GD : FnOk P w K mg base CX0 1 fD fdD ["bag", "limit"] spDraw) (gD : mg "_law_draw" = some (.ref fD)) (kD : PySem.W.keepIn K (.ref fD) = true) (bD : L2.Binds K fdD ["bag", "limit"] []) :
    FnOk P w K mg base CX0 2 f fd ["bag"] spLL := by
  refine F.ok scLL (fun vs H Q E h => ?_) (fun cdv A outer s H vs Q E hr h => ?_)
  · obtain ⟨b, c, ns, ct, rfl, _⟩ := h
    rfl
  · obtain ⟨b, c, ns, ct, rfl, B, c0, c1, hns, kk⟩ := h
    refine ⟨_, pss_cons (ps_set (i := 1) scLL.nd rfl (Or.inl rfl) (pe_lst (pa_cons (pe_lst (pa_cons pe_str pa_nil)) (pa_cons (pe_lst (pa_cons pe_str pa_nil)) (pa_cons (pe_lst (pa_cons pe_str pa_nil)) (pa_cons (pe_lst (pa_cons pe_str (pa_cons pe_str (pa_cons pe_str pa_nil)))) pa_nil))))))
      (pss_cons (ps_expr (pe_bm PySem.F.plainAttrs_list PySem.F.slot_list_append PySem.F.type_list_append mt_append (pv 1) (pa_cons (pe_lst (pa_cons (pe_op op_add_str pe_str (pe_callTy call_str_int (by rfl) TG.str (by decide +kernel) (pa_cons (pe_op op_add pe_int (pe_call GD hr (by rfl) gD kD bD .nil pass0 (pa_cons (pv 0) (pa_cons pe_int pa_nil)))) pa_nil))) (pa_cons pe_str (pa_cons pe_str (pa_cons pe_str pa_nil))))) pa_nil)))
      (pss_cons (ps_set (i := 2) scLL.nd rfl (Or.inl rfl) (pe_lst pa_nil))
      (pss_cons (ps_for PassesOwn.never rfl (pi_range1 (by rfl) TG.range (pa_cons (pe_call GD hr (by rfl) gD kD bD .nil pass0 (pa_cons (pv 0) (pa_cons pe_int pa_nil))) pa_nil)) (pg_name (i := 3) scLL.nd rfl (Or.inl rfl))
        (pss_one (ps_set (i := 2) scLL.nd rfl (Or.inl rfl) (pe_op op_cat (pv 2) (pe_ix ix_list (pv 1) (pe_call GD hr (by rfl) gD kD bD .nil pass0 (pa_cons (pv 0) (pa_cons (pe_ifExp (pt_cmpR op_lt (pv 3) pe_int (nomark _)) pe_int pe_int) pa_nil))) (fun _ _ => rfl))))))
      (pss_one (ps_ret (pv 2)))))), ?_⟩
    refine ⟨(by show 1 ≤ sizeLine; decide), fun l0 h0 => ⟨(by show 1 ≤ sizeLine; decide), fun l1 h1 => ⟨(by show 1 ≤ sizeLine; decide), fun l2 h2 => ⟨(by show 3 ≤ sizeLine; decide), fun l3 h3 => ⟨(by show 4 ≤ sizeLine; decide), fun q hq => ?_⟩⟩⟩⟩⟩
    have s0 := same_upd (o := .lst [V.str "low = none"]) h0
    have s1 := same_upd (o := .lst [V.str "top = low"]) h1
    have s2 := same_upd (o := .lst [V.str "out = low"]) h2
    have s3 := same_upd (o := .lst [V.str "if low is none", V.str "out = top", V.str "end"]) h3
    have s4 := same_upd (o := .lst [V.ref l0, V.ref l1, V.ref l2, V.ref l3]) hq
    have k0 := ((s1.trans s2).trans (s3.trans s4)) l0 _ upd_same
    have k1 := (s2.trans (s3.trans s4)) l1 _ upd_same
    have k2 := (s3.trans s4) l2 _ upd_same
    have k3 := s4 l3 _ upd_same
    have sm := (s0.trans s1).trans ((s2.trans s3).trans s4)
    have q0 : H q = none := by
      cases e : H q with
      | none => rfl
      | some u => rw [((s0.trans s1).trans (s2.trans s3)) _ _ e] at hq; cases hq
    have kq : upd (upd (upd (upd (upd H l0 (.lst [V.str "low = none"])) l1 (.lst [V.str "top = low"])) l2 (.lst [V.str "out = low"])) l3 (.lst [V.str "if low is none", V.str "out = top", V.str "end"])) q (.lst [V.ref l0, V.ref l1, V.ref l2, V.ref l3]) q = some (.lst [V.ref l0, V.ref l1, V.ref l2, V.ref l3]) := upd_same
    generalize upd (upd (upd (upd (upd H l0 (.lst [V.str "low = none"])) l1 (.lst [V.str "top = low"])) l2 (.lst [V.str "out = low"])) l3 (.lst [V.str "if low is none", V.str "out = top", V.str "end"])) q (.lst [V.ref l0, V.ref l1, V.ref l2, V.ref l3]) = H1 at *
    clear s0 s1 s2 s3 s4 h0 h1 h2 h3 hq
    have B1 := B.keep sm
    obtain ⟨kb, hb1⟩ := B1.dk
    refine ⟨_, rfl, .inl ⟨rfl, _, SqL.of kq⟩, _, rfl, b, c, 60, ns, ct, rfl, B1, c0, by omega, by decide, by decide, hns, fun r H2 r0 r1 B2 sb => ?_⟩
    refine ⟨_, _, rfl, rfl, _, rfl, ?_, _, _, rfl, rfl, ?_, (by show 4 ≤ sizeLine; decide), fun l4 h4 => ?_⟩
    · have : (1 + r).natAbs < 2 ^ 6 := by omega
      have := Nat.log2_lt (n := (1 + r).natAbs) (k := 6) (by omega)
      omega
    · have g := (good_out (by
        have := good_steps ⟨r.toNat, by omega⟩
        rwa [show ((r.toNat : Nat) : Int) + 1 = 1 + r by omega] at this : goodT (stepsT (1 + r)) = true)).2.1
      unfold stepsT at g
      rw [Str.length_append] at g
      exact Nat.le_trans g (by decide)
    · have sb2 := sb
      have nqb : q ≠ b := ne_of kq hb1 (fun z => nomatch z)
      have kq2 := sb _ _ nqb kq
      have conv : ([V.str (("if steps < " : Str) ++ (toString (1 + r) : String)), V.str "else", V.str "quit", V.str "end"] : List V) = (blkT (1 + r) 4).map V.str := rfl
      rw [conv]
      have e4 := same_upd (o := .lst ((blkT (1 + r) 4).map V.str)) h4
      have k4 : upd H2 l4 (.lst ((blkT (1 + r) 4).map V.str)) l4 = some (.lst ((blkT (1 + r) 4).map V.str)) := upd_same
      refine ⟨q, _, _, rfl, rfl, e4 _ _ kq2, (by show 4 + 1 ≤ sizeLine; decide), ?_⟩
      rw [show ([V.ref l0, V.ref l1, V.ref l2, V.ref l3] ++ [V.ref l4] : List V) = [.ref l0, .ref l1, .ref l2, .ref l3, .ref l4] from rfl]
      have P : PoolAt (upd (upd H2 l4 (.lst ((blkT (1 + r) 4).map V.str))) q (.lst [.ref l0, .ref l1, .ref l2, .ref l3, .ref l4])) q (1 + r) (fun j => match j with | 0 => l0 | 1 => l1 | 2 => l2 | 3 => l3 | _ => l4) := by
        have off : ∀ {a : Addr} {xs : List V}, H1 a = some (.lst xs) → a ≠ q → upd (upd H2 l4 (.lst ((blkT (1 + r) 4).map V.str))) q (.lst [.ref l0, .ref l1, .ref l2, .ref l3, .ref l4]) a = some (.lst xs) := fun {a xs} h n => by
          rw [upd_ne n]
          exact e4 _ _ (sb _ _ (ne_of h hb1 (fun z => nomatch z)) h)
        have nq : ∀ {a : Addr} {x : Str} {xs : List V}, H1 a = some (.lst (V.str x :: xs)) → a ≠ q := fun {a x xs} h e => by
          rw [e, kq] at h
          injection h with h
          injection h with h
          injection h with h
          cases h
        refine ⟨upd_same, fun j hj => ?_⟩
        match j, hj with
        | 0, _ => exact off k0 (nq k0)
        | 1, _ => exact off k1 (nq k1)
        | 2, _ => exact off k2 (nq k2)
        | 3, _ => exact off k3 (nq k3)
        | 4, _ =>
          show upd _ q _ l4 = _
          have n4 : l4 ≠ q := (ne_of_none kq2 h4).symm
          rw [upd_ne n4]; exact k4
      have B3 : BagAt (upd (upd H2 l4 (.lst ((blkT (1 + r) 4).map V.str))) q (.lst [.ref l0, .ref l1, .ref l2, .ref l3, .ref l4])) b c ns (ct + 1) := by
        have B4 := B2.keep e4
        obtain ⟨kb2, hb2⟩ := B4.dk
        refine B4.updl nqb.symm fun z => ?_
        obtain ⟨_, _, _, _, hc, _⟩ := B.ex
        rw [← z, hc] at q0; cases q0
      have sb3 : SameBut b H (upd (upd H2 l4 (.lst ((blkT (1 + r) 4).map V.str))) q (.lst [.ref l0, .ref l1, .ref l2, .ref l3, .ref l4])) := fun a o n h => by
        rw [upd_ne (ne_of_none h q0)]
        exact e4 _ _ (sb _ _ n (sm _ _ h))
      generalize upd (upd H2 l4 (.lst ((blkT (1 + r) 4).map V.str))) q (.lst [.ref l0, .ref l1, .ref l2, .ref l3, .ref l4]) = H3 at *
      generalize (fun j => match j with | 0 => l0 | 1 => l1 | 2 => l2 | 3 => l3 | _ => l4 : Nat → Addr) = l at P
      clear k0 k1 k2 k3 kq kq2 k4 e4 sb2 sb
      refine ⟨(by show 0 ≤ sizeLine; decide), fun p0 hp0 => ?_⟩
      have s5 := same_upd (o := .lst []) hp0
      have B5 := B3.keep s5
      have P5 := P.same s5
      have kp5 : upd H3 p0 (.lst []) p0 = some (.lst []) := upd_same
      have sb5 : SameBut b H (upd H3 p0 (.lst [])) := sb3.trans (SameBut.of s5)
      have p00 : p0 ≠ b := by
        rintro rfl
        obtain ⟨_, hb3⟩ := B3.dk
        rw [hb3] at hp0; cases hp0
      have p0n : H p0 = none := by
        cases e : H p0 with
        | none => rfl
        | some u => rw [sb3 _ _ p00 e] at hp0; cases hp0
      generalize upd H3 p0 (.lst []) = H5 at *
      refine ⟨_, rfl, b, c, 16, ns, ct + 1, rfl, B5, by omega, by omega, by decide, by decide, hns, fun m H6 m0 m1 B6 sb6 => ?_⟩
      obtain ⟨kb5, hb5⟩ := B5.dk
      have P6 := P5.but hb5 sb6
      have kp6 : H6 p0 = some (.lst []) := sb6 _ _ p00 kp5
      refine ⟨m, rfl, by omega, by omega, for_range (lo := 0) (n := m.toNat) (fun j σ H' => ∃ (p : Addr) (bs : List Nat) (x3 : Option V), σ = [some (.ref b), some (.ref q), some (.ref p), x3] ∧ BagAt H' b c ns (ct + 2 + j) ∧ PoolAt H' q (1 + r) l ∧ SameBut b H H' ∧ H p = none ∧ H' p = some (.lst ((txtB (1 + r) bs).map V.str)) ∧ bs.length = j ∧ ∀ j' d, bs[j']? = some d → d < 5 ∧ (7 ≤ j' → d < 3)) ⟨p0, [], none, rfl, by rw [show ct + 2 + ((0 : Nat) : Int) = ct + 1 + 1 by omega]; exact B6, P6, sb5.trans sb6, p0n, kp6, rfl, fun j' d h => by simp at h⟩ ?_ ?_⟩
      · rintro j σ H7 hj ⟨p, bs, x3, rfl, B7, P7, sb7, p7, kp7, bl, hd⟩
        obtain ⟨kb7, hb7⟩ := B7.dk
        have dr : Drawn bs := ⟨by omega, hd⟩
        have tl := (dr.sums).2 (1 + r)
        have lim : ∀ lm : Int, 1 ≤ lm → lm ≤ 5 → (7 ≤ j → lm = 3) → ∀ (d : Int) (H8 : Hp), 0 ≤ d → d < lm → BagAt H8 b c ns (ct + 2 + j + 1) → SameBut b H7 H8 → ∃ t : Nat, d = t ∧ t < 5 ∧ (7 ≤ j → t < 3) := fun lm a1 a2 a3 d H8 d0 d1 _ _ => ⟨d.toNat, by omega, by omega, fun h => by have := a3 h; omega⟩
        have step : ∀ (t : Nat) (H8 : Hp), t < 5 → (7 ≤ j → t < 3) → BagAt H8 b c ns (ct + 2 + j + 1) → SameBut b H7 H8 → ∀ p2, H8 p2 = none → ∃ (p' : Addr) (bs' : List Nat) (x3 : Option V), [some (V.ref b), some (.ref q), some (.ref p2), some (.int ((0 : Int) + (j : Nat)))] = [some (V.ref b), some (.ref q), some (.ref p'), x3] ∧ BagAt (upd H8 p2 (.lst ((txtB (1 + r) bs).map V.str ++ (blkT (1 + r) t).map V.str))) b c ns (ct + 2 + ((j + 1 : Nat) : Int)) ∧ PoolAt (upd H8 p2 (.lst ((txtB (1 + r) bs).map V.str ++ (blkT (1 + r) t).map V.str))) q (1 + r) l ∧ SameBut b H (upd H8 p2 (.lst ((txtB (1 + r) bs).map V.str ++ (blkT (1 + r) t).map V.str))) ∧ H p' = none ∧ upd H8 p2 (.lst ((txtB (1 + r) bs).map V.str ++ (blkT (1 + r) t).map V.str)) p' = some (.lst ((txtB (1 + r) bs').map V.str)) ∧ bs'.length = j + 1 ∧ ∀ j' d, bs'[j']? = some d → d < 5 ∧ (7 ≤ j' → d < 3) := fun t H8 t5 t3 B8 sb8 p2 hp2 => by
          have s8 := same_upd (o := .lst ((txtB (1 + r) bs).map V.str ++ (blkT (1 + r) t).map V.str)) hp2
          have np2 : p2 ≠ b := by
            rintro rfl
            obtain ⟨_, hb8⟩ := B8.dk
            rw [hb8] at hp2; cases hp2
          refine ⟨p2, bs ++ [t], _, rfl, by rw [show ct + 2 + ((j + 1 : Nat) : Int) = ct + 2 + (j : Nat) + 1 by omega]; exact B8.keep s8, (P7.but hb7 sb8).same s8, (sb7.trans sb8).trans (SameBut.of s8), ?_, ?_, by rw [List.length_append, bl]; rfl, fun j' d h => ?_⟩
          · cases e : H p2 with
            | none => rfl
            | some u => rw [(sb7.trans sb8) _ _ np2 e] at hp2; cases hp2
          · rw [upd_same, txt_snoc, List.map_append]
          · by_cases c : j' < bs.length
            · rw [List.getElem?_append_left c] at h
              exact hd j' d h
            · rw [List.getElem?_append_right (by omega)] at h
              have : j' - bs.length = 0 := by
                by_cases z : j' - bs.length = 0
                · exact z
                · rw [List.getElem?_eq_none (by show 1 ≤ _; omega)] at h; cases h
              rw [this] at h
              cases h
              exact ⟨t5, fun h7 => t3 (by omega)⟩
        have at5 : ∀ t : Nat, t < 5 → atI [V.ref (l 0), .ref (l 1), .ref (l 2), .ref (l 3), .ref (l 4)] (t : Int) = some (.ref (l t)) := fun t ht => atI_nat (by
          match t, ht with
          | 0, _ => rfl
          | 1, _ => rfl
          | 2, _ => rfl
          | 3, _ => rfl
          | 4, _ => rfl)
        have np : p ≠ b := ne_of kp7 hb7 (fun z => nomatch z)
        have bd : ∀ t : Nat, t < 5 → ((txtB (1 + r) bs).map V.str).length + ((blkT (1 + r) t).map V.str).length ≤ sizeLine := fun t ht => by
          rw [List.length_map, List.length_map, sizeLine_eq]
          have : (blkT (1 + r) t).length ≤ 4 := by
            match t, ht with
            | 0, _ => exact (by decide : 1 ≤ 4)
            | 1, _ => exact (by decide : 1 ≤ 4)
            | 2, _ => exact (by decide : 1 ≤ 4)
            | 3, _ => exact (by decide : 3 ≤ 4)
            | 4, _ => exact Nat.le_refl 4
          omega
        refine ⟨_, rfl, _, rfl, _, rfl, _, rfl, _, _, rfl, rfl, _, rfl, ?_⟩
        have fin : ∀ (lm : Int), 1 ≤ lm → lm ≤ 5 → (7 ≤ j → lm = 3) → ∀ (d : Int) (H8 : Hp), 0 ≤ d → d < lm → BagAt H8 b c ns (ct + 2 + j + 1) → SameBut b H7 H8 → ∃ (t : Nat), d = t ∧ t < 5 ∧ (7 ≤ j → t < 3) ∧ H8 q = some (.lst [V.ref (l 0), .ref (l 1), .ref (l 2), .ref (l 3), .ref (l 4)]) ∧ H8 (l t) = some (.lst ((blkT (1 + r) t).map V.str)) ∧ H8 p = some (.lst ((txtB (1 + r) bs).map V.str)) := fun lm a1 a2 a3 d H8 d0 d1 B8 sb8 => by
          obtain ⟨t, e, t5, t3⟩ := lim lm a1 a2 a3 d H8 d0 d1 B8 sb8
          have P8 := P7.but hb7 sb8
          exact ⟨t, e, t5, t3, P8.hq, P8.hl t t5, sb8 _ _ np kp7⟩
        by_cases c7 : j < 7
        · refine ifT (decide_eq_true (by show (0 : Int) + (j : Nat) < 7; omega)) ⟨b, c, 5, ns, ct + 2 + j, rfl, B7, by omega, by omega, by decide, by decide, hns, fun d H8 d0 d1 B8 sb8 => ?_⟩
          obtain ⟨t, rfl, t5, t3, g1, g2, g3⟩ := fin 5 (by decide) (by decide) (fun z => by omega) d H8 d0 d1 B8 sb8
          exact ⟨q, _, _, .ref (l t), rfl, rfl, SqL.of g1, at5 t t5, p, l t, _, _, rfl, rfl, g3, g2, bd t t5, fun p2 hp2 => step t H8 t5 t3 B8 sb8 p2 hp2⟩
        · refine ifF (decide_eq_false (by show ¬ (0 : Int) + (j : Nat) < 7; omega)) ⟨b, c, 3, ns, ct + 2 + j, rfl, B7, by omega, by omega, by decide, by decide, hns, fun d H8 d0 d1 B8 sb8 => ?_⟩
          obtain ⟨t, rfl, t5, t3, g1, g2, g3⟩ := fin 3 (by decide) (by decide) (fun z => rfl) d H8 d0 d1 B8 sb8
          exact ⟨q, _, _, .ref (l t), rfl, rfl, SqL.of g1, at5 t t5, p, l t, _, _, rfl, rfl, g3, g2, bd t t5, fun p2 hp2 => step t H8 t5 t3 B8 sb8 p2 hp2⟩
      · rintro σ H7 ⟨p, bs, x3, rfl, B7, P7, sb7, p7, kp7, bl, hd⟩
        exact ⟨_, rfl, kk (1 + r) bs p H7 _ (by omega) (by omega) ⟨by omega, hd⟩ (by omega) (by omega) B7 sb7 p7 kp7⟩
end
end K40

namespace L2
open PySem PySem.Spec PyProof.Rows
section
variable {X : Cx}
/-- t != u, two tuples of the same items -/
def rNeS (K : PySem.W.Frag) (r : Bool) : R2 := fun x y H Q => ∃ (a b : Addr) (xs : List V), x = .ref a ∧ y = .ref b ∧ SqT K H a xs ∧ SqT K H b xs ∧ (∀ v ∈ xs, flatB v = true ∨ ∃ c, v = .ref c) ∧ Q (.bl r) H
theorem same_items {P : Program} {w : World} {A : Around} {s : Shared} : ∀ {xs : List V} {us ws : List Value}, (∀ v ∈ xs, flatB v = true ∨ ∃ c, v = .ref c) → Vals xs us → Vals xs ws → ∀ j (h1 : j < us.length) (h2 : j < ws.length), SeqAt.EqAt A s us[j] ws[j] true
  | _, _, _, _, .nil, _, _, h1, _ => absurd h1 (Nat.not_lt_zero _)
  | x :: xs, _, _, hv, .cons a1 b1, .cons a2 b2, j, h1, h2 => by
    cases j with
    | zero =>
      rcases hv x List.mem_cons_self with f | ⟨c, rfl⟩
      · exact eqAt_same a1 a2 f
      · cases (show _ = Value.ref c from a1)
        cases (show _ = Value.ref c from a2)
        exact SeqAt.EqAt.same _
    | succ j => exact same_items (P := P) (w := w) (fun v hm => hv v (List.mem_cons_of_mem _ hm)) b1 b2 j (Nat.lt_of_succ_lt_succ h1) (Nat.lt_of_succ_lt_succ h2)
theorem op_neS (hu : X.A.units < cLine) : OpR X (compareOp .NotEq) (rNeS X.K false) := by
  intro pins s σ H x y v u Q I rx ry h
  obtain ⟨a, b, xs, rfl, rfl, ha, hb, hv, q⟩ := h
  cases (show v = Value.ref a from rx)
  cases (show u = Value.ref b from ry)
  obtain ⟨us, r1, p1, _⟩ := I.tuple ha
  obtain ⟨ws, r2, p2, _⟩ := I.tuple hb
  have hl : us.length = ws.length := by rw [← r1.length, ← r2.length]
  refine SeqAt.RcNeAt.tuples (e := fun _ => true) p1 p2 hu (fun j h1 h2 => ?_) X.prog X.w _ _ ?_
  · have k := same_items (P := X.prog) (w := X.w) (A := X.A.in1) (s := s) hv r1 r2 j (by simpa using h1) (by simpa using h2)
    simpa using k
  · rw [show (!((List.range (min us.toArray.size ws.toArray.size)).all (fun _ => true) && us.toArray.size == ws.toArray.size)) = false by
      rw [List.size_toArray, List.size_toArray, hl]; simp]
    exact ⟨.bl false, H, I, rfl, q⟩
theorem op_eqS (hu : X.A.units < cLine) : OpR X (compareOp .Eq) (rNeS X.K true) := by
  intro pins s σ H x y v u Q I rx ry h
  obtain ⟨a, b, xs, rfl, rfl, ha, hb, hv, q⟩ := h
  cases (show v = Value.ref a from rx)
  cases (show u = Value.ref b from ry)
  obtain ⟨us, r1, p1, _⟩ := I.tuple ha
  obtain ⟨ws, r2, p2, _⟩ := I.tuple hb
  have hl : us.length = ws.length := by rw [← r1.length, ← r2.length]
  refine SeqAt.RcAt.tuples (e := fun _ => true) p1 p2 hu (fun j h1 h2 => ?_) X.prog X.w _ _ ?_
  · have k := same_items (P := X.prog) (w := X.w) (A := X.A.in1) (s := s) hv r1 r2 j (by simpa using h1) (by simpa using h2)
    simpa using k
  · rw [show (((List.range (min us.toArray.size ws.toArray.size)).all (fun _ => true) && us.toArray.size == ws.toArray.size)) = true by
      rw [List.size_toArray, List.size_toArray, hl]; simp]
    exact ⟨.bl true, H, I, rfl, q⟩
end
end L2

namespace K40
open PySem PySem.Spec PyProof.Rows L2 Fm PySem.RingX
def ascB (T : Str) : Bool := (T.cps.toList.all fun c => decide (c < 128)) && (decide (T.length ≤ 54000) && decide ((linesOfM T).length ≤ 1000))
theorem ascB_out {T : Str} (h : ascB T = true) : Asc T ∧ T.length ≤ 90000 ∧ T.length ≤ 900 * 60 ∧ (linesOfM T).length ≤ 1000 := by
  unfold ascB at h
  simp only [Bool.and_eq_true, List.all_eq_true, decide_eq_true_eq] at h
  exact ⟨⟨h.1, by omega⟩, by omega, h.2.1, h.2.2⟩
section
variable {K : PySem.W.Frag} {H : Hp} {k x T : Str}
theorem told_many (hk : kindM k = true) (hx : wayM x = true) (h : ascB T = true) {n : Nat} (hn : (linesOfM T).length = n) (h60 : 60 < n) : ToldC K (.str k) (.str x) T H [.str "many", .str "lines", .int n, .int 60] := by
  obtain ⟨a1, a2, a3, a4⟩ := ascB_out h
  exact .inr ⟨k, rfl, hk, .inr ⟨x, rfl, hx, a1, a2, a3, a4, .inl ⟨by omega, by rw [hn]⟩⟩⟩
def errAt (T : Str) (n : Nat) : Bool := match programM 100 (linesOfM T) with | some (.error m) => decide (m = n) | _ => false
theorem told_line (hk : kindM k = true) (hx : wayM x = true) (h : ascB T = true) (hl : (linesOfM T).length ≤ 60) {n : Nat} (e : errAt T n = true) : ToldC K (.str k) (.str x) T H [.str "line", .int n] := by
  obtain ⟨a1, a2, a3, a4⟩ := ascB_out h
  unfold errAt at e
  cases p : programM 100 (linesOfM T) with
  | none => rw [p] at e; cases e
  | some r =>
    rw [p] at e
    cases r with
    | ok _ => cases e
    | error m =>
      have em : m = n := of_decide_eq_true e
      exact .inr ⟨k, rfl, hk, .inr ⟨x, rfl, hx, a1, a2, a3, a4, .inr ⟨hl, 100, _, p, .inl ⟨m, rfl, by rw [em]⟩⟩⟩⟩
def ifsAt (T : Str) (n : Nat) : Bool := match programM 100 (linesOfM T) with | some (.ok Ls) => decide (ifsM Ls = n) | _ => false
theorem told_ifs (hk : kindM k = true) (hx : wayM x = true) (h : ascB T = true) (hl : (linesOfM T).length ≤ 60) {n : Nat} (e : ifsAt T n = true) (h7 : 7 < n) : ToldC K (.str k) (.str x) T H [.str "many", .str "ifs", .int n, .int 7] := by
  obtain ⟨a1, a2, a3, a4⟩ := ascB_out h
  unfold ifsAt at e
  cases p : programM 100 (linesOfM T) with
  | none => rw [p] at e; cases e
  | some r =>
    rw [p] at e
    cases r with
    | error _ => cases e
    | ok Ls =>
      have em : ifsM Ls = n := of_decide_eq_true e
      exact .inr ⟨k, rfl, hk, .inr ⟨x, rfl, hx, a1, a2, a3, a4, .inr ⟨hl, 100, _, p, .inr ⟨Ls, rfl, .inl ⟨by omega, by rw [em]⟩⟩⟩⟩⟩
end
def yIfs : List Str := (List.replicate 8 (["if low is none", "end"] : List Str)).flatten
def yLong : List Str := (List.replicate 61 (["low = none"] : List Str)).flatten
abbrev tIfs : Str := Txt.join "\n" yIfs
abbrev tLong : Str := Txt.join "\n" yLong
/-- lines that can be joined and split again -/
def litT (t : Str) : Bool := (t.cps.toList.all fun c => decide (c < 128) && decide (c ≠ 10)) && (decide (t.length ≤ 50) && decide (t ≠ ""))
theorem lit_of {t : Str} (h : litT t = true) : (∀ c ∈ t.cps.toList, c < 128 ∧ c ≠ 10) ∧ t.length ≤ 50 ∧ t ≠ "" := by
  unfold litT at h
  simp only [Bool.and_eq_true, List.all_eq_true, decide_eq_true_eq] at h
  exact ⟨h.1, h.2.1, h.2.2⟩
theorem lit_join : ∀ l : List Str, (∀ t ∈ l, litT t = true) → (∀ c ∈ (Str.join "\n" l).cps.toList, c < 128) ∧ (Str.join "\n" l).length ≤ 51 * l.length
  | [], _ => ⟨fun c hc => (by simp [Str.join, Str.empty] at hc), Nat.zero_le _⟩
  | [x], h => by
    obtain ⟨g1, g2, _⟩ := lit_of (h x (List.mem_singleton.mpr rfl))
    exact ⟨fun c hc => (g1 c hc).1, by show x.length ≤ 51 * 1; omega⟩
  | x :: y :: r, h => by
    obtain ⟨g1, g2, _⟩ := lit_of (h x List.mem_cons_self)
    obtain ⟨i1, i2⟩ := lit_join (y :: r) fun t ht => h t (List.mem_cons_of_mem _ ht)
    have e : Str.join "\n" (x :: y :: r) = x ++ "\n" ++ Str.join "\n" (y :: r) := rfl
    rw [e]
    refine ⟨fun c hc => ?_, ?_⟩
    · rw [cps_append, cps_append] at hc
      rcases List.mem_append.mp hc with hc | hc
      · rcases List.mem_append.mp hc with hc | hc
        · exact (g1 c hc).1
        · have : ∀ c ∈ ("\n" : Str).cps.toList, c < 128 := by decide +kernel
          exact this c hc
      · exact i1 c hc
    · rw [Str.length_append, Str.length_append, List.length_cons]
      have : ("\n" : Str).length = 1 := by decide +kernel
      omega
theorem lit_lines {l : List Str} (h : l.all litT = true) (hn : l.length ≤ 1000) : ascB (Txt.join "\n" l) = true ∧ linesOfM (Txt.join "\n" l) = l := by
  have h := List.all_eq_true.mp h
  have lj : linesOfM (Txt.join "\n" l) = l := by
    unfold linesOfM
    cases l with
    | nil => exact if_pos (by decide +kernel)
    | cons a r =>
      have sj : Txt.split (Txt.join "\n" (a :: r)) "\n" = a :: r := by
        refine TL.split_join (s := 10) (S := []) (by decide +kernel) (by decide +kernel) (List.cons_ne_nil _ _) fun p hp => ?_
        intro m
        exact ((lit_of (h p hp)).1 10 m).2 rfl
      by_cases c : Txt.join "\n" (a :: r) = ""
      · exfalso
        rw [c] at sj
        have e : Txt.split ("" : Str) "\n" = [("" : Str)] := by decide +kernel
        rw [e] at sj
        injection sj with s1 _
        exact (lit_of (h a List.mem_cons_self)).2.2 s1.symm
      · rw [if_neg c, sj]
  obtain ⟨j1, j2⟩ := lit_join l h
  refine ⟨?_, lj⟩
  unfold ascB
  rw [lj, TL.join_eq]
  simp only [Bool.and_eq_true, List.all_eq_true, decide_eq_true_eq]
  exact ⟨j1, by omega, hn⟩
theorem lit_snoc (x : Str) : ∀ l : List Str, l ≠ [] → Str.join "\n" l ++ ("\n" ++ x) = Str.join "\n" (l ++ [x])
  | [], h => absurd rfl h
  | [a], _ => (Str.append_assoc ..).symm
  | a :: b :: r, _ => by
    have e : Str.join "\n" (a :: b :: r) = a ++ "\n" ++ Str.join "\n" (b :: r) := rfl
    have e2 : Str.join "\n" ((a :: b :: r) ++ [x]) = a ++ "\n" ++ Str.join "\n" ((b :: r) ++ [x]) := rfl
    rw [e, e2, ← lit_snoc x (b :: r) (List.cons_ne_nil _ _), Str.append_assoc]
theorem tail_eq (l : List Str) (h : l ≠ []) : Txt.join "\n" l ++ "\nLow = none" = Txt.join "\n" (l ++ [("Low = none" : Str)]) := by
  rw [TL.join_eq, TL.join_eq, ← lit_snoc _ l h]
  congr 1
theorem head_eq (a : Str) (r : List Str) : ("low = next low\n" : Str) ++ Txt.join "\n" (a :: r) = Txt.join "\n" ("low = next low" :: a :: r) := by
  rw [TL.join_eq, TL.join_eq]
  have e : ("low = next low\n" : Str) = "low = next low" ++ "\n" := by decide +kernel
  rw [e]
  rfl
theorem c1 : ascB (tLong ++ "\nLow = none") = true ∧ (linesOfM (tLong ++ "\nLow = none")).length = 62 := by
  rw [show tLong = Txt.join "\n" yLong from rfl, tail_eq _ (by decide)]
  obtain ⟨a, b⟩ := lit_lines (l := yLong ++ [("Low = none" : Str)]) (by decide +kernel) (by decide)
  exact ⟨a, by rw [b]; decide⟩
theorem c2 : ascB (tIfs ++ "\nLow = none") = true ∧ (linesOfM (tIfs ++ "\nLow = none")).length ≤ 60 ∧ errAt (tIfs ++ "\nLow = none") 17 = true := by
  rw [show tIfs = Txt.join "\n" yIfs from rfl, tail_eq _ (by decide)]
  obtain ⟨a, b⟩ := lit_lines (l := yIfs ++ [("Low = none" : Str)]) (by decide +kernel) (by decide)
  refine ⟨a, by rw [b]; decide, ?_⟩
  unfold errAt
  rw [b]
  decide +kernel
theorem c3 : ascB tIfs = true ∧ (linesOfM tIfs).length ≤ 60 ∧ ifsAt tIfs 8 = true := by
  rw [show tIfs = Txt.join "\n" yIfs from rfl]
  obtain ⟨a, b⟩ := lit_lines (l := yIfs) (by decide +kernel) (by decide)
  refine ⟨a, by rw [b]; decide, ?_⟩
  unfold ifsAt
  rw [b]
  decide +kernel
theorem c4 : ascB ("low = next low\n" ++ tIfs) = true ∧ (linesOfM ("low = next low\n" ++ tIfs)).length ≤ 60 ∧ ifsAt ("low = next low\n" ++ tIfs) 8 = true := by
  have e : ("low = next low\n" : Str) ++ tIfs = Txt.join "\n" ("low = next low" :: yIfs) := head_eq _ _
  rw [e]
  obtain ⟨a, b⟩ := lit_lines (l := "low = next low" :: yIfs) (by decide +kernel) (by decide)
  refine ⟨a, by rw [b]; decide, ?_⟩
  unfold ifsAt
  rw [b]
  decide +kernel
end K40

namespace K40
open PySem PySem.Spec PyProof.Rows L2 Fm PySem.RingX
section
variable {P : Program} {w : World} {K : PySem.W.Frag} {mg : Str → Option Value} {base : Heap}
def spKW (K : PySem.W.Frag) : Sp := fun vs H Q _ => ∃ (k x : Str), vs = [.str k, .str x] ∧ kindM k = true ∧ wayM x = true ∧ ∀ H', Same H H' → Q (.bl true) H'
theorem scOrd : FnScope ["kind", "way", "ifs", "long"] ["kind", "way"] (defScope s__law_order_right) := ⟨rfl, rfl, rfl, by decide +kernel, rfl, by decide +kernel, by decide +kernel⟩
theorem sumIfs : (yIfs.map (·.length)).sum + yIfs.length * ("\n" : Str).length ≤ 16777216 := by decide +kernel
theorem sumLong : (yLong.map (·.length)).sum + yLong.length * ("\n" : Str).length ≤ 16777216 := by decide +kernel
theorem ln1 : tLong.length + ("\nLow = none" : Str).length ≤ sizeLine := by rw [sizeLine_eq]; decide +kernel
theorem ln2 : tIfs.length + ("\nLow = none" : Str).length ≤ sizeLine := by rw [sizeLine_eq]; decide +kernel
theorem ln3 : ("low = next low\n" : Str).length + tIfs.length ≤ sizeLine := by rw [sizeLine_eq]; decide +kernel
theorem ok_ord {f fT : Addr} {fd fdT : FuncData} (F : Fun K "_law_order_right" "_law_order_right" s__law_order_right f fd) (GT : FnOk P w K mg base CX0 12 fT fdT ["kind", "way", "text"] (spTold K)) (gT : mg "_law_told" = some (.ref fT)) (kT : PySem.W.keepIn K (.ref fT) = true) (bT : L2.Binds K fdT ["kind", "way", "text"] []) :
    FnOk P w K mg base CX0 13 f fd ["kind", "way"] (spKW K) := by
  refine F.ok scOrd (fun vs H Q E h => ?_) (fun cdv A outer s H vs Q E hr h => ?_)
  · obtain ⟨k, x, rfl, _⟩ := h
    rfl
  · obtain ⟨k, x, rfl, hk, hx, kQ⟩ := h
    have hu : (A.deeper (envOfC "_law_order_right" (defScope s__law_order_right) s.heap.objs.size f cdv)).units < cLine := by have := hr.un; omega
    refine ⟨_, pss_cons (ps_set (i := 2) scOrd.nd rfl (Or.inl rfl) (pe_join pe_str (pe_op op_rep (pe_lst (pa_cons pe_str (pa_cons pe_str pa_nil))) pe_int)))
      (pss_cons (ps_set (i := 3) scOrd.nd rfl (Or.inl rfl) (pe_join pe_str (pe_op op_rep (pe_lst (pa_cons pe_str pa_nil)) pe_int)))
      (pss_cons (ps_if (pt_cmpR (op_neS hu) (pe_call GT hr (by rfl) gT kT bT .nil pass0 (pa_cons (pv 0) (pa_cons (pv 1) (pa_cons (pe_op op_add_str (pv 3) pe_str) pa_nil)))) (pe_tup (pa_cons pe_str (pa_cons pe_str (pa_cons pe_int (pa_cons pe_int pa_nil))))) (nomark _)) pss_no pss_nil)
      (pss_cons (ps_if (PW.pt (pw_or (pt_cmpR (op_neS hu) (pe_call GT hr (by rfl) gT kT bT .nil pass0 (pa_cons (pv 0) (pa_cons (pv 1) (pa_cons (pe_op op_add_str (pv 2) pe_str) pa_nil)))) (pe_tup (pa_cons pe_str (pa_cons pe_int pa_nil))) (nomark _))
          (pw_or1 (pt_cmpR (op_neS hu) (pe_call GT hr (by rfl) gT kT bT .nil pass0 (pa_cons (pv 0) (pa_cons (pv 1) (pa_cons (pv 2) pa_nil)))) (pe_tup (pa_cons pe_str (pa_cons pe_str (pa_cons pe_int (pa_cons pe_int pa_nil))))) (nomark _))))) pss_no pss_nil)
      (pss_one (ps_ret (pe_cmpR (op_eqS hu) (pe_call GT hr (by rfl) gT kT bT .nil pass0 (pa_cons (pv 0) (pa_cons (pv 1) (pa_cons (pe_op op_add_str pe_str (pv 2)) pa_nil)))) (pe_tup (pa_cons pe_str (pa_cons pe_str (pa_cons pe_int (pa_cons pe_int pa_nil))))) (nomark _))))))), ?_⟩
    refine ⟨⟨_, rfl⟩, (by show 2 ≤ sizeLine; decide), fun l1 h1 => ?_⟩
    have s1 := same_upd (o := .lst [V.str "if low is none", V.str "end"]) h1
    refine ⟨l1, 8, _, rfl, rfl, upd_same, by decide, by decide, (by show 2 * 8 ≤ sizeLine; decide), fun p1 g1 => ?_⟩
    have s2 := s1.trans (same_upd (o := .lst (yIfs.map V.str)) g1)
    refine ⟨"\n", p1, yIfs, rfl, rfl, .inl (SqL.of upd_same), sumIfs, ?_⟩
    refine ⟨⟨_, rfl⟩, (by show 1 ≤ sizeLine; decide), fun l2 h2 => ?_⟩
    have s3 := s2.trans (same_upd (o := .lst [V.str "low = none"]) h2)
    refine ⟨l2, 61, _, rfl, rfl, upd_same, by decide, by decide, (by show 1 * 61 ≤ sizeLine; decide), fun p2 g2 => ?_⟩
    have s4 := s3.trans (same_upd (o := .lst (yLong.map V.str)) g2)
    refine ⟨"\n", p2, yLong, rfl, rfl, .inl (SqL.of upd_same), sumLong, ?_⟩
    refine ⟨_, rfl, _, rfl, _, rfl, tLong, "\nLow = none", rfl, rfl, ln1, .str k, .str x, _, _, rfl, told_many hk hx c1.1 c1.2 (by decide), fun q1 H5 hq1 s5 e5 => ⟨(by show 4 ≤ sizeLine; decide), fun r1 hr1 => ?_⟩⟩
    have s6 := same_upd (o := .tup [V.str "many", V.str "lines", V.int 62, V.int 60]) hr1
    refine ⟨q1, r1, _, rfl, rfl, SqT.of (s6 _ _ e5), SqT.of upd_same, (by intro v hv; left; simp only [List.mem_cons, List.mem_nil_iff, or_false] at hv; rcases hv with rfl | rfl | rfl | rfl <;> rfl), _, rfl, iteF ?_⟩
    have s7 := (s4.trans s5).trans s6
    refine ⟨_, rfl, _, rfl, _, rfl, tIfs, "\nLow = none", rfl, rfl, ln2, .str k, .str x, _, _, rfl, told_line hk hx c2.1 c2.2.1 c2.2.2, fun q2 H8 hq2 s8 e8 => ⟨(by show 2 ≤ sizeLine; decide), fun r2 hr2 => ?_⟩⟩
    have s9 := same_upd (o := .tup [V.str "line", V.int 17]) hr2
    refine ⟨q2, r2, _, rfl, rfl, SqT.of (s9 _ _ e8), SqT.of upd_same, (by intro v hv; left; simp only [List.mem_cons, List.mem_nil_iff, or_false] at hv; rcases hv with rfl | rfl <;> rfl), _, rfl, iteF ?_⟩
    have s10 := (s7.trans s8).trans s9
    refine ⟨_, rfl, _, rfl, _, rfl, .str k, .str x, _, _, rfl, told_ifs hk hx c3.1 c3.2.1 c3.2.2 (by decide), fun q3 H11 hq3 s11 e11 => ⟨(by show 4 ≤ sizeLine; decide), fun r3 hr3 => ?_⟩⟩
    have s12 := same_upd (o := .tup [V.str "many", V.str "ifs", V.int 8, V.int 7]) hr3
    refine ⟨q3, r3, _, rfl, rfl, SqT.of (s12 _ _ e11), SqT.of upd_same, (by intro v hv; left; simp only [List.mem_cons, List.mem_nil_iff, or_false] at hv; rcases hv with rfl | rfl | rfl | rfl <;> rfl), _, rfl, iteF ?_⟩
    have s13 := (s10.trans s11).trans s12
    refine ⟨_, rfl, _, rfl, _, rfl, "low = next low\n", tIfs, rfl, rfl, ln3, .str k, .str x, _, _, rfl, told_ifs hk hx c4.1 c4.2.1 c4.2.2 (by decide), fun q4 H14 hq4 s14 e14 => ⟨(by show 4 ≤ sizeLine; decide), fun r4 hr4 => ?_⟩⟩
    have s15 := same_upd (o := .tup [V.str "many", V.str "ifs", V.int 8, V.int 7]) hr4
    exact ⟨q4, r4, _, rfl, rfl, SqT.of (s15 _ _ e14), SqT.of upd_same, (by intro v hv; left; simp only [List.mem_cons, List.mem_nil_iff, or_false] at hv; rcases hv with rfl | rfl | rfl | rfl <;> rfl), kQ _ ((s13.trans s14).trans s15)⟩
end
end K40

namespace K40
open PySem PySem.Spec PyProof.Rows L2 Fm PySem.RingX
def oneL : List Str := ["if low is none", "end"]
def rep (n : Nat) (l : List Str) : List Str := (List.replicate n l).flatten
def YS : List (List Str × Nat) := [(rep 9 oneL, 9), (rep 8 (["if low is none"] : List Str) ++ rep 8 (["end"] : List Str), 8), (rep 8 (["if low is none", "else"] : List Str) ++ rep 8 (["end"] : List Str), 8), ((["quit"] : List Str) ++ rep 8 oneL, 8), (rep 20 oneL, 20)]
def okY (q : List Str × Nat) : Bool := (ascB (Txt.join "\n" q.1) && decide ((linesOfM (Txt.join "\n" q.1)).length ≤ 60)) && (ifsAt (Txt.join "\n" q.1) q.2 && (decide (7 < q.2) && decide ((q.1.map (·.length)).sum + q.1.length * ("\n" : Str).length ≤ 16777216)))
def okZ (q : List Str × Nat) : Bool := (q.1.all litT && decide (q.1.length ≤ 60)) && ((match programM 100 q.1 with | some (.ok Ls) => decide (ifsM Ls = q.2) | _ => false) && (decide (7 < q.2) && decide ((q.1.map (·.length)).sum + q.1.length * ("\n" : Str).length ≤ 16777216)))
theorem okZS : YS.all okZ = true := by decide +kernel
theorem okYS : YS.all okY = true := List.all_eq_true.mpr fun q hq => by
  have h := List.all_eq_true.mp okZS q hq
  unfold okZ at h
  simp only [Bool.and_eq_true] at h
  obtain ⟨⟨h1, h2⟩, h3, h4, h5⟩ := h
  have l60 : q.1.length ≤ 60 := of_decide_eq_true h2
  obtain ⟨a, b⟩ := lit_lines h1 (by omega)
  unfold okY ifsAt
  simp only [Bool.and_eq_true]
  rw [b]
  exact ⟨⟨a, h2⟩, h3, h4, h5⟩
def loopL : List Str := ["walk at is item", "if low is none", "end", "if top is none", "end", "go", "end"]
def aheadL (k : Str) : List Str := if k = "take" then [] else ["at = first"]
def textL (k : Str) : List Str := aheadL k ++ loopL ++ rep 7 oneL
def quietB (k : Str) (T : Str) : Bool := match programM 100 (linesOfM T) with
  | some (.ok Ls) => decide (ifsM Ls ≤ 7) && (match waysM 20000 Ls [([], 1)] [] with
    | some ways => ways.all fun wy => (runW k Ls (wy.filter (walkB Ls)).length wy (0, false) && (wy.all (fun n => decide (1 ≤ n) && decide (n ≤ Ls.length)) && decide (wy.length ≤ 1000)))
    | none => false)
  | _ => false
end K40

namespace K40
open PySem PySem.Spec PyProof.Rows L2 Fm PySem.RingX
theorem in_mem {x : Str} : ∀ {l : List Str}, inV (.str x) (l.map V.str) = true → x ∈ l
  | [], h => by cases h
  | a :: r, h => by
    unfold inV at h
    rw [List.map_cons, List.any_cons, Bool.or_eq_true] at h
    rcases h with h | h
    · have h : (a == x) = true := h
      rw [eq_of_beq h]; exact List.mem_cons_self
    · exact List.mem_cons_of_mem _ (in_mem h)
theorem runW_kind {k1 k2 : Str} (e : (k1 ≠ "take") = (k2 ≠ "take")) {Ls : List LineM} {nl : Nat} : ∀ (w : List Nat) (st : Nat × Bool), runW k1 Ls nl w st = runW k2 Ls nl w st
  | [], _ => rfl
  | n :: r, st => by
    have s : stepW k1 Ls nl st n = stepW k2 Ls nl st n := by
      unfold stepW
      simp only [e]
    unfold runW
    rw [s]
    cases stepW k2 Ls nl st n with
    | none => rfl
    | some st' => exact runW_kind e r st'
theorem lit_text : (kindsL.all fun k => (textL k).all litT) = true := by decide +kernel
theorem text_lines {k : Str} (hk : k ∈ kindsL) : ascB (Txt.join "\n" (textL k)) = true ∧ linesOfM (Txt.join "\n" (textL k)) = textL k := lit_lines (List.all_eq_true.mp lit_text k hk) (by unfold textL aheadL; split <;> decide)
theorem quiet1 : quietB "find" (Txt.join "\n" (textL "find")) = true := by
  unfold quietB
  rw [(text_lines (k := "find") (by decide +kernel)).2]
  decide +kernel
theorem quiet2 : quietB "take" (Txt.join "\n" (textL "take")) = true := by
  unfold quietB
  rw [(text_lines (k := "take") (by decide +kernel)).2]
  decide +kernel
theorem bars0 : (waysL.all fun x => kindsL.all fun k => decide (barsM k x (textL k) = [])) = true := by decide +kernel
theorem asc0 : (kindsL.all fun k => decide ((textL k).length = (aheadL k).length + 21) && decide (((textL k).map (·.length)).sum + (textL k).length * ("\n" : Str).length ≤ 16777216)) = true := by decide +kernel
theorem bars1 : (waysL.all fun x => kindsL.all fun k => decide (barsM k x (linesOfM (Txt.join "\n" (textL k))) = [])) = true :=
  List.all_eq_true.mpr fun x hx => List.all_eq_true.mpr fun k hk => by
    rw [(text_lines hk).2]
    exact List.all_eq_true.mp (List.all_eq_true.mp bars0 x hx) k hk
theorem asc1 : (kindsL.all fun k => (ascB (Txt.join "\n" (textL k)) && decide ((linesOfM (Txt.join "\n" (textL k))).length = (aheadL k).length + 21)) && decide (((textL k).map (·.length)).sum + (textL k).length * ("\n" : Str).length ≤ 16777216)) = true :=
  List.all_eq_true.mpr fun k hk => by
    have h := List.all_eq_true.mp asc0 k hk
    simp only [Bool.and_eq_true] at h ⊢
    rw [(text_lines hk).2]
    exact ⟨⟨(text_lines hk).1, h.1⟩, h.2⟩
theorem told_loop {K : PySem.W.Frag} {H : Hp} {k x : Str} (hk : kindM k = true) (hx : wayM x = true) : ToldC K (.str k) (.str x) (Txt.join "\n" (textL k)) H [.str "made", .str k, .str x, .str (Txt.join "\n" (textL k)), .int ((aheadL k).length + 21 : Nat)] ∧ ((textL k).map (·.length)).sum + (textL k).length * ("\n" : Str).length ≤ 16777216 := by
  have km := in_mem hk
  have xm := in_mem hx
  have a := List.all_eq_true.mp asc1 k km
  simp only [Bool.and_eq_true, decide_eq_true_eq] at a
  obtain ⟨⟨a1, a2⟩, a3⟩ := a
  obtain ⟨b1, b2, b3, b4⟩ := ascB_out a1
  have bar := of_decide_eq_true (List.all_eq_true.mp (List.all_eq_true.mp bars1 x xm) k km)
  refine ⟨.inr ⟨k, rfl, hk, .inr ⟨x, rfl, hx, b1, b2, b3, b4, .inr ⟨by rw [a2]; unfold aheadL; split <;> decide, ?_⟩⟩⟩, a3⟩
  have q : ∃ k2 : Str, (k ≠ "take") = (k2 ≠ "take") ∧ textL k = textL k2 ∧ quietB k2 (Txt.join "\n" (textL k2)) = true := by
    by_cases c : k = "take"
    · exact ⟨"take", by rw [c], by rw [c], quiet2⟩
    · refine ⟨"find", ?_, ?_, quiet1⟩
      · exact propext ⟨fun _ => by decide +kernel, fun _ => c⟩
      · unfold textL aheadL
        rw [if_neg c, if_neg (by decide +kernel)]
  obtain ⟨k2, e1, e2, q⟩ := q
  unfold quietB at q
  rw [← e2] at q
  cases p : programM 100 (linesOfM (Txt.join "\n" (textL k))) with
  | none => rw [p] at q; cases q
  | some r =>
    rw [p] at q
    cases r with
    | error _ => cases q
    | ok Ls =>
      obtain ⟨q1, q2⟩ := Bool.and_eq_true_iff.mp q
      have q1 := of_decide_eq_true q1
      refine ⟨100, _, p, .inr ⟨Ls, rfl, .inr ⟨q1, ⟨bar, ?_⟩, by rw [a2]⟩⟩⟩
      cases w : waysM 20000 Ls [([], 1)] [] with
      | none => rw [w] at q2; cases q2
      | some ways =>
        rw [w] at q2
        refine ⟨20000, ways, by decide, w, fun wy hw => ?_⟩
        have g := List.all_eq_true.mp q2 wy hw
        simp only [Bool.and_eq_true, decide_eq_true_eq, List.all_eq_true] at g
        obtain ⟨g1, g2, g3⟩ := g
        exact ⟨⟨by rw [runW_kind e1]; exact g1, fun n hn => g2 n hn⟩, by omega⟩
end K40

namespace K40
open PySem PySem.Spec PyProof.Rows L2 Fm PySem.RingX
section
variable {P : Program} {w : World} {K : PySem.W.Frag} {mg : Str → Option Value} {base : Heap}
def nIR : List Str := ["kind", "way", "one", "nested", "others", "lines", "many", "ahead", "loop", "text"]
theorem scIR : FnScope nIR ["kind", "way"] (defScope s__law_ifs_right) := ⟨rfl, rfl, rfl, by decide +kernel, rfl, by decide +kernel, by decide +kernel⟩
theorem ok_ir {f fT : Addr} {fd fdT : FuncData} (F : Fun K "_law_ifs_right" "_law_ifs_right" s__law_ifs_right f fd) (TG : GB mg) (GT : FnOk P w K mg base CX0 12 fT fdT ["kind", "way", "text"] (spTold K)) (gT : mg "_law_told" = some (.ref fT)) (kT : PySem.W.keepIn K (.ref fT) = true) (bT : L2.Binds K fdT ["kind", "way", "text"] []) :
    FnOk P w K mg base CX0 13 f fd ["kind", "way"] (spKW K) := by
  refine F.ok scIR (fun vs H Q E h => ?_) (fun cdv A outer s H vs Q E hr h => ?_)
  · obtain ⟨k, x, rfl, _⟩ := h
    rfl
  · obtain ⟨k, x, rfl, hk, hx, kQ⟩ := h
    have hu : (A.deeper (envOfC "_law_ifs_right" (defScope s__law_ifs_right) s.heap.objs.size f cdv)).units < cLine := by have := hr.un; omega
    obtain ⟨tF, pF, qF⟩ : ∃ tF, PSs (cxOf CX0 P w K mg base nIR "_law_ifs_right" (defScope s__law_ifs_right) f cdv A outer s H E).nox ((defBody s__law_ifs_right).drop 5) tF ∧
        ∀ (D : Ends) (o a : Addr) (x3 x4 x5 x6 : Option V) (H1 : Hp), D.rt = Q → Same H H1 → H1 o = some (.lst (oneL.map V.str)) → H1 a = some (.lst ((aheadL k).map V.str)) → tF D [some (.str k), some (.str x), some (.ref o), x3, x4, x5, x6, some (.ref a), none, none] H1 := by
      refine ⟨_, (pss_cons (ps_set (i := 8) scIR.nd rfl (Or.inl rfl) (pe_lst (pa_cons pe_str (pa_cons pe_str (pa_cons pe_str (pa_cons pe_str (pa_cons pe_str (pa_cons pe_str (pa_cons pe_str pa_nil)))))))))
        (pss_cons (ps_set (i := 9) scIR.nd rfl (Or.inl rfl) (pe_join pe_str (pe_op op_cat (pe_op op_cat (pv 7) (pv 8)) (pe_op op_rep (pv 2) pe_int))))
        (pss_one (ps_ret (pe_cmpR (op_eqS hu) (pe_call GT hr (by rfl) gT kT bT .nil pass0 (pa_cons (pv 0) (pa_cons (pv 1) (pa_cons (pv 9) pa_nil)))) (pe_tup (pa_cons pe_str (pa_cons (pv 0) (pa_cons (pv 1) (pa_cons (pv 9) (pa_cons (pe_op op_add (pe_callB call_len_seq (by rfl) TG.len PySem.boot_len (pa_cons (pv 7) pa_nil)) pe_int) pa_nil)))))) (nomark _)))))), ?_⟩
      intro D o a x3 x4 x5 x6 H1 hD s1 ho ha
      have al : (aheadL k).length ≤ 1 := by unfold aheadL; split <;> decide
      refine ⟨(by show 7 ≤ sizeLine; decide), fun l hl => ?_⟩
      have s2 := same_upd (o := .lst (loopL.map V.str)) hl
      refine ⟨⟨_, rfl⟩, _, rfl, _, rfl, a, l, _, _, rfl, rfl, s2 _ _ ha, upd_same, (by rw [List.length_map, sizeLine_eq]; show (aheadL k).length + 7 ≤ _; omega), fun c1 hc1 => ?_⟩
      have s3 := s2.trans (same_upd (o := .lst ((aheadL k).map V.str ++ loopL.map V.str)) hc1)
      refine ⟨_, rfl, o, 7, _, rfl, rfl, s3 _ _ ho, by decide, by decide, (by show 2 * 7 ≤ sizeLine; decide), fun c2 hc2 => ?_⟩
      have k1 := same_upd (o := .lst ((rep 7 oneL).map V.str)) hc2 c1 _ upd_same
      have s4 := s3.trans (same_upd (o := .lst ((rep 7 oneL).map V.str)) hc2)
      refine ⟨c1, c2, _, _, rfl, rfl, k1, upd_same, (by rw [List.length_append, List.length_map, sizeLine_eq]; show (aheadL k).length + 7 + 14 ≤ _; omega), fun c3 hc3 => ?_⟩
      have eT : (aheadL k).map V.str ++ loopL.map V.str ++ (rep 7 oneL).map V.str = (textL k).map V.str := by unfold textL; rw [List.map_append, List.map_append]
      have s5 := s4.trans (same_upd (o := .lst ((aheadL k).map V.str ++ loopL.map V.str ++ (rep 7 oneL).map V.str)) hc3)
      have k3 : upd (upd (upd (upd H1 l (.lst (loopL.map V.str))) c1 (.lst ((aheadL k).map V.str ++ loopL.map V.str))) c2 (.lst ((rep 7 oneL).map V.str))) c3 (.lst ((aheadL k).map V.str ++ loopL.map V.str ++ (rep 7 oneL).map V.str)) c3 = some (.lst ((textL k).map V.str)) := by rw [upd_same, eT]
      obtain ⟨_, sm⟩ := told_loop (K := K) (H := H1) hk hx
      refine ⟨"\n", c3, textL k, rfl, rfl, .inl (SqL.of k3), sm, ?_⟩
      refine ⟨_, rfl, _, rfl, _, rfl, .str k, .str x, _, _, rfl, (told_loop hk hx).1, fun q1 H5 hq1 s6 e5 => ⟨_, rfl, _, rfl, _, rfl, _, rfl, a, _, rfl, .inl (SqL.of ((s5.trans s6) _ _ ha)), _, _, rfl, rfl, (by show 5 ≤ sizeLine; decide), fun r1 hr1 => ?_⟩⟩
      have eN : ((((aheadL k).map V.str).length : Nat) : Int) + 21 = (((aheadL k).length + 21 : Nat) : Int) := by rw [List.length_map]; omega
      show rNeS _ true (.ref q1) (.ref r1) (upd H5 r1 (.tup [V.str "made", V.str k, V.str x, V.str (Txt.join "\n" (textL k)), V.int (((((aheadL k).map V.str).length : Nat) : Int) + 21)])) D.rt
      rw [eN, hD]
      have s7 := same_upd (o := .tup [V.str "made", V.str k, V.str x, V.str (Txt.join "\n" (textL k)), V.int (((aheadL k).length + 21 : Nat) : Int)]) hr1
      exact ⟨q1, r1, _, rfl, rfl, SqT.of (s7 _ _ e5), SqT.of upd_same, (by intro v hv; left; simp only [List.mem_cons, List.mem_nil_iff, or_false] at hv; rcases hv with rfl | rfl | rfl | rfl | rfl <;> rfl), kQ _ (((s1.trans s5).trans s6).trans s7)⟩
    obtain ⟨tE, pE, qE⟩ : ∃ tE, PSs (cxOf CX0 P w K mg base nIR "_law_ifs_right" (defScope s__law_ifs_right) f cdv A outer s H E).nox ((defBody s__law_ifs_right).drop 4) tE ∧
        ∀ (D : Ends) (o : Addr) (x3 x4 x5 x6 : Option V) (H1 : Hp), D.rt = Q → Same H H1 → H1 o = some (.lst (oneL.map V.str)) → tE D [some (.str k), some (.str x), some (.ref o), x3, x4, x5, x6, none, none, none] H1 := by
      refine ⟨_, pss_cons (ps_set (i := 7) scIR.nd rfl (Or.inl rfl) (pe_ifExp (pt_cmpR op_eq (pv 0) pe_str (nomark _)) (pe_lst pa_nil) (pe_lst (pa_cons pe_str pa_nil)))) pF, ?_⟩
      intro D o x3 x4 x5 x6 H1 hD s1 ho
      refine ⟨_, rfl, rfl, _, rfl, ?_⟩
      by_cases c : k = "take"
      · refine ifT (decide_eq_true (congrArg V.str c)) ⟨(by show 0 ≤ sizeLine; decide), fun a ha => ?_⟩
        have sa := same_upd (o := .lst []) ha
        exact qF _ o a _ _ _ _ _ hD (s1.trans sa) (sa _ _ ho) (by rw [upd_same]; unfold aheadL; rw [if_pos c]; rfl)
      · refine ifF (decide_eq_false fun z => c (V.str.inj z)) ⟨(by show 1 ≤ sizeLine; decide), fun a ha => ?_⟩
        have sa := same_upd (o := .lst [V.str "at = first"]) ha
        exact qF _ o a _ _ _ _ _ hD (s1.trans sa) (sa _ _ ho) (by rw [upd_same]; unfold aheadL; rw [if_neg c]; rfl)
    refine ⟨_, pss_cons (ps_set (i := 2) scIR.nd rfl (Or.inl rfl) (pe_lst (pa_cons pe_str (pa_cons pe_str pa_nil))))
      (pss_cons (ps_set (i := 3) scIR.nd rfl (Or.inl rfl) (pe_op op_cat (pe_op op_rep (pe_lst (pa_cons pe_str pa_nil)) pe_int) (pe_op op_rep (pe_lst (pa_cons pe_str pa_nil)) pe_int)))
      (pss_cons (ps_set (i := 4) scIR.nd rfl (Or.inl rfl) (pe_op op_cat (pe_op op_rep (pe_lst (pa_cons pe_str (pa_cons pe_str pa_nil))) pe_int) (pe_op op_rep (pe_lst (pa_cons pe_str pa_nil)) pe_int)))
      (pss_cons (ps_for PassesOwn.never rfl (pi_list (pe_lst (pa_cons (pe_tup (pa_cons (pe_op op_rep (pv 2) pe_int) (pa_cons pe_int pa_nil))) (pa_cons (pe_tup (pa_cons (pv 3) (pa_cons pe_int pa_nil))) (pa_cons (pe_tup (pa_cons (pv 4) (pa_cons pe_int pa_nil))) (pa_cons (pe_tup (pa_cons (pe_op op_cat (pe_lst (pa_cons pe_str pa_nil)) (pe_op op_rep (pv 2) pe_int)) (pa_cons pe_int pa_nil))) (pa_cons (pe_tup (pa_cons (pe_op op_rep (pv 2) pe_int) (pa_cons pe_int pa_nil))) pa_nil)))))))
          (pg_tup rfl (pgs_cons (pg_name (i := 5) scIR.nd rfl (Or.inl rfl)) (pgs_cons (pg_name (i := 6) scIR.nd rfl (Or.inl rfl)) pgs_nil)))
        (pss_one (ps_if (pt_cmpR (op_neS hu) (pe_call GT hr (by rfl) gT kT bT .nil pass0 (pa_cons (pv 0) (pa_cons (pv 1) (pa_cons (pe_join pe_str (pv 5)) pa_nil)))) (pe_tup (pa_cons pe_str (pa_cons pe_str (pa_cons (pv 6) (pa_cons pe_int pa_nil))))) (nomark _)) pss_no pss_nil)))
      pE))), ?_⟩
    refine ⟨(by show 2 ≤ sizeLine; decide), fun o h1 => ?_⟩
    have e1 := @same_upd H o (.lst (oneL.map V.str)) h1
    refine ⟨(by show 1 ≤ sizeLine; decide), fun a1 h2 => ⟨a1, 8, _, rfl, rfl, upd_same, by decide, by decide, (by show 1 * 8 ≤ sizeLine; decide), fun p1 h3 => ⟨(by show 1 ≤ sizeLine; decide), fun a2 h4 => ⟨a2, 8, _, rfl, rfl, upd_same, by decide, by decide, (by show 1 * 8 ≤ sizeLine; decide), fun p2 h5 => ?_⟩⟩⟩⟩
    have e2 := @same_upd _ a1 (.lst [V.str "if low is none"]) h2
    have e3 := @same_upd _ p1 (.lst ((rep 8 ["if low is none"]).map V.str)) h3
    have e4 := @same_upd _ a2 (.lst [V.str "end"]) h4
    have e5 := @same_upd _ p2 (.lst ((rep 8 ["end"]).map V.str)) h5
    refine ⟨p1, p2, _, _, rfl, rfl, (e4.trans e5) p1 _ upd_same, upd_same, (by show 8 + 8 ≤ sizeLine; decide), fun n1 h6 => ?_⟩
    have e6 := @same_upd _ n1 (.lst ((rep 8 (["if low is none"] : List Str) ++ rep 8 (["end"] : List Str)).map V.str)) h6
    refine ⟨(by show 2 ≤ sizeLine; decide), fun a3 h7 => ⟨a3, 8, _, rfl, rfl, upd_same, by decide, by decide, (by show 2 * 8 ≤ sizeLine; decide), fun p3 h8 => ⟨(by show 1 ≤ sizeLine; decide), fun a4 h9 => ⟨a4, 8, _, rfl, rfl, upd_same, by decide, by decide, (by show 1 * 8 ≤ sizeLine; decide), fun p4 h10 => ?_⟩⟩⟩⟩
    have e7 := @same_upd _ a3 (.lst [V.str "if low is none", V.str "else"]) h7
    have e8 := @same_upd _ p3 (.lst ((rep 8 ["if low is none", "else"]).map V.str)) h8
    have e9 := @same_upd _ a4 (.lst [V.str "end"]) h9
    have e10 := @same_upd _ p4 (.lst ((rep 8 ["end"]).map V.str)) h10
    refine ⟨p3, p4, _, _, rfl, rfl, (e9.trans e10) p3 _ upd_same, upd_same, (by show 16 + 8 ≤ sizeLine; decide), fun n2 h11 => ?_⟩
    have e11 := @same_upd _ n2 (.lst ((rep 8 (["if low is none", "else"] : List Str) ++ rep 8 (["end"] : List Str)).map V.str)) h11
    have s11 := (((e2.trans e3).trans (e4.trans e5)).trans (e6.trans e7)).trans (((e8.trans e9).trans e10).trans e11)
    refine ⟨_, rfl, o, 9, _, rfl, rfl, s11 o _ upd_same, by decide, by decide, (by show 2 * 9 ≤ sizeLine; decide), fun r1 h12 => ⟨(by show 2 ≤ sizeLine; decide), fun t1 h13 => ⟨_, rfl, (by show 2 ≤ sizeLine; decide), fun t2 h14 => ⟨_, rfl, (by show 2 ≤ sizeLine; decide), fun t3 h15 => ⟨(by show 1 ≤ sizeLine; decide), fun a5 h16 => ?_⟩⟩⟩⟩⟩
    have e12 := @same_upd _ r1 (.lst ((rep 9 oneL).map V.str)) h12
    have e13 := @same_upd _ t1 (.tup [V.ref r1, V.int 9]) h13
    have e14 := @same_upd _ t2 (.tup [V.ref n1, V.int 8]) h14
    have e15 := @same_upd _ t3 (.tup [V.ref n2, V.int 8]) h15
    have e16 := @same_upd _ a5 (.lst [V.str "quit"]) h16
    have s16 := (e12.trans e13).trans ((e14.trans e15).trans e16)
    refine ⟨_, rfl, o, 8, _, rfl, rfl, (s11.trans s16) o _ upd_same, by decide, by decide, (by show 2 * 8 ≤ sizeLine; decide), fun r2 h17 => ?_⟩
    have e17 := @same_upd _ r2 (.lst ((rep 8 oneL).map V.str)) h17
    refine ⟨a5, r2, _, _, rfl, rfl, e17 a5 _ upd_same, upd_same, (by show 1 + 16 ≤ sizeLine; decide), fun n3 h18 => ⟨(by show 2 ≤ sizeLine; decide), fun t4 h19 => ?_⟩⟩
    have e18 := @same_upd _ n3 (.lst (((["quit"] : List Str) ++ rep 8 oneL).map V.str)) h18
    have e19 := @same_upd _ t4 (.tup [V.ref n3, V.int 8]) h19
    have s19 := (e17.trans e18).trans e19
    refine ⟨_, rfl, o, 20, _, rfl, rfl, ((s11.trans s16).trans s19) o _ upd_same, by decide, by decide, (by show 2 * 20 ≤ sizeLine; decide), fun r3 h20 => ⟨(by show 2 ≤ sizeLine; decide), fun t5 h21 => ⟨(by show 5 ≤ sizeLine; decide), fun L h22 => ?_⟩⟩⟩
    have e20 := @same_upd _ r3 (.lst ((rep 20 oneL).map V.str)) h20
    have e21 := @same_upd _ t5 (.tup [V.ref r3, V.int 20]) h21
    have e22 := @same_upd _ L (.lst [V.ref t1, V.ref t2, V.ref t3, V.ref t4, V.ref t5]) h22
    have s22 := (e20.trans e21).trans e22
    have sA := ((s11.trans s16).trans s19).trans s22
    have ko := sA o _ upd_same
    have kn1 := (((e7.trans e8).trans ((e9.trans e10).trans e11)).trans ((s16.trans s19).trans s22)) n1 _ upd_same
    have kn2 := ((s16.trans s19).trans s22) n2 _ upd_same
    have kr1 := ((e13.trans ((e14.trans e15).trans e16)).trans (s19.trans s22)) r1 _ upd_same
    have kt1 := (((e14.trans e15).trans e16).trans (s19.trans s22)) t1 _ upd_same
    have kt2 := ((e15.trans e16).trans (s19.trans s22)) t2 _ upd_same
    have kt3 := (e16.trans (s19.trans s22)) t3 _ upd_same
    have kn3 := (e19.trans s22) n3 _ upd_same
    have kt4 := s22 t4 _ upd_same
    have kr3 := (e21.trans e22) r3 _ upd_same
    have kt5 := e22 t5 _ upd_same
    have sZ := e1.trans sA
    refine ⟨L, rfl, ⟨_, SqL.of upd_same⟩, for_list (K := K) (a := L) (xs := [V.ref t1, .ref t2, .ref t3, .ref t4, .ref t5]) (fun i σ H' => ∃ (o3 o4 x5 x6 : Option V), σ = [some (.str k), some (.str x), some (.ref o), o3, o4, x5, x6, none, none, none] ∧ Same H H' ∧ H' L = some (.lst [V.ref t1, .ref t2, .ref t3, .ref t4, .ref t5]) ∧ H' o = some (.lst (oneL.map V.str)) ∧ ∀ (i : Nat) (t : Addr) (q : List Str × Nat), [t1, t2, t3, t4, t5][i]? = some t → YS[i]? = some q → ∃ l, H' t = some (.tup [V.ref l, V.int q.2]) ∧ H' l = some (.lst (q.1.map V.str)))
      ⟨_, _, _, _, rfl, sZ, upd_same, ko, ?_⟩ (fun i σ H' _ ⟨_, _, _, _, _, _, h, _⟩ => SqL.of h) ?_ ?_⟩
    · intro i t q ht hq
      match i, ht, hq with
      | 0, ht, hq => cases ht; cases hq; exact ⟨r1, kt1, kr1⟩
      | 1, ht, hq => cases ht; cases hq; exact ⟨n1, kt2, kn1⟩
      | 2, ht, hq => cases ht; cases hq; exact ⟨n2, kt3, kn2⟩
      | 3, ht, hq => cases ht; cases hq; exact ⟨n3, kt4, kn3⟩
      | 4, ht, hq => cases ht; cases hq; exact ⟨r3, kt5, kr3⟩
      | i + 5, ht, _ => simp at ht
    · rintro i y σ H1 hy ⟨o3, o4, x5, x6, rfl, s1, hL, ho, all⟩
      have hy2 : ∃ t, [t1, t2, t3, t4, t5][i]? = some t ∧ y = .ref t ∧ i < 5 := by
        match i, hy with
        | 0, hy => cases hy; exact ⟨_, rfl, rfl, by decide⟩
        | 1, hy => cases hy; exact ⟨_, rfl, rfl, by decide⟩
        | 2, hy => cases hy; exact ⟨_, rfl, rfl, by decide⟩
        | 3, hy => cases hy; exact ⟨_, rfl, rfl, by decide⟩
        | 4, hy => cases hy; exact ⟨_, rfl, rfl, by decide⟩
        | i + 5, hy => simp at hy
      obtain ⟨t, ht, rfl, i5⟩ := hy2
      obtain ⟨q, hq⟩ : ∃ q, YS[i]? = some q := ⟨_, List.getElem?_eq_getElem (by show i < 5; exact i5)⟩
      obtain ⟨l, g1, g2⟩ := all i t q ht hq
      have ok := List.all_eq_true.mp okYS q (List.mem_of_getElem? hq)
      unfold okY at ok
      simp only [Bool.and_eq_true, decide_eq_true_eq] at ok
      obtain ⟨⟨k1, k2⟩, k3, k4, k5⟩ := ok
      refine ⟨t, _, rfl, SqT.of g1, rfl, _, _, rfl, _, _, rfl, rfl, ?_⟩
      refine ⟨_, rfl, _, rfl, ⟨_, rfl⟩, _, rfl, "\n", l, q.1, rfl, rfl, .inl (SqL.of g2), k5, .str k, .str x, _, _, rfl, told_ifs hk hx k1 k2 k3 k4, fun q1 H5 hq1 s5 e5' => ⟨_, rfl, (by show 4 ≤ sizeLine; decide), fun u hu' => ?_⟩⟩
      have s6 := same_upd (o := .tup [V.str "many", V.str "ifs", V.int q.2, V.int 7]) hu'
      refine ⟨q1, u, _, rfl, rfl, SqT.of (s6 _ _ e5'), SqT.of upd_same, (by intro v hv; left; simp only [List.mem_cons, List.mem_nil_iff, or_false] at hv; rcases hv with rfl | rfl | rfl | rfl <;> rfl), _, rfl, iteF ?_⟩
      have s56 := s5.trans s6
      refine ⟨_, _, _, _, rfl, s1.trans s56, s56 _ _ hL, s56 _ _ ho, fun i t q ht hq => ?_⟩
      obtain ⟨l, g1, g2⟩ := all i t q ht hq
      exact ⟨l, s56 _ _ g1, s56 _ _ g2⟩
    · rintro σ H1 ⟨o3, o4, x5, x6, rfl, s1, hL, ho, all⟩
      exact qE _ o _ _ _ _ H1 rfl s1 ho
end
end K40

namespace K40
open PySem PySem.Spec PyProof.Rows L2 Fm PySem.RingX
/-- a text that every kind and way takes -/
structure GoodT (text : Str) : Prop where
  asc : Asc text
  l1 : text.length ≤ 54000
  l2 : (linesOfM text).length ≤ 60
  ex : ∃ n Ls, programM n (linesOfM text) = some (.ok Ls) ∧ ifsM Ls ≤ 7 ∧ ∀ k x, QuietM k x (linesOfM text) Ls
theorem GoodT.code {K : PySem.W.Frag} {CK CY CL CM : Addr} {k x text : Str} {H : Hp} {E : XK} {fin : Str → Str → Prop} (G : GoodT text) (hk : kindM k = true) (hx : wayM x = true) (f : fin k x) : CodeC K CK CY CL CM (.str k) (.str x) text H E fin := by
  obtain ⟨a, l1, l2, n, Ls, e, i, q⟩ := G
  exact .inr ⟨k, rfl, hk, .inr ⟨x, rfl, hx, a, by omega, by omega, by omega, .inr ⟨l2, n, _, e, .inr ⟨Ls, rfl, .inr ⟨i, q k x, f⟩⟩⟩⟩⟩
theorem GoodT.told {K : PySem.W.Frag} {k x text : Str} {H : Hp} (G : GoodT text) (hk : kindM k = true) (hx : wayM x = true) : ToldC K (.str k) (.str x) text H [.str "made", .str k, .str x, .str text, .int (linesOfM text).length] := by
  obtain ⟨a, l1, l2, n, Ls, e, i, q⟩ := G
  exact .inr ⟨k, rfl, hk, .inr ⟨x, rfl, hx, a, by omega, by omega, by omega, .inr ⟨l2, n, _, e, .inr ⟨Ls, rfl, .inr ⟨i, q k x, rfl⟩⟩⟩⟩⟩
theorem good_drawn {i : Int} (h1 : 1 ≤ i) (h2 : i ≤ 60) {bs : List Nat} (hl : (txtB i bs).length ≤ 60) (hi : (bs.map ifB_).sum ≤ 7) : GoodT (Txt.join "\n" (txtB i bs)) ∧ linesOfM (Txt.join "\n" (txtB i bs)) = txtB i bs := by
  have g := good_txt h1 h2 bs
  have lj := lines_join g
  obtain ⟨j1, j2⟩ := join_ok _ g
  have jl : (Txt.join "\n" (txtB i bs)).length ≤ 51 * (txtB i bs).length := by rw [TL.join_eq]; exact j2
  have ja : Asc (Txt.join "\n" (txtB i bs)) := ⟨by rw [TL.join_eq]; exact j1, by omega⟩
  have rl := rowsB_len i bs 0
  obtain ⟨n, Ls, e1, e2, e3⟩ := prog_of (lines_all h1 h2 bs) (shape_rows i bs) (by omega)
  have ic := ifs_rows i bs 0
  refine ⟨⟨ja, by omega, by rw [lj]; omega, n, Ls, by rw [lj]; exact e1, by omega, fun k x => ?_⟩, lj⟩
  rw [lj]
  exact e3 (by omega) k x (bars_none g)
section
variable {P : Program} {w : World} {K : PySem.W.Frag} {mg : Str → Option Value} {base : Heap}
def spWR (CC : Addr) : Sp := fun vs H Q _ => ∃ (p : Addr) (k x text : Str), vs = [.ref p, .str k, .str text] ∧ CodeAt CC H p k x text ∧ kindM k = true ∧ wayM x = true ∧ GoodT text ∧ ∀ H', Same H H' → Q (.bl true) H'
def nWR : List Str := ["code", "kind", "text", "way", "other", "e"]
theorem scWR : FnScope nWR ["code", "kind", "text"] (defScope s__law_ways_right) := ⟨rfl, rfl, rfl, by decide +kernel, rfl, by decide +kernel, by decide +kernel⟩
theorem takes_lenN {X : Cx} {W : WX} (n : Nat) (hn : X.N.length = n) (tk : Takes X W) : Takes X (fun cls d σ H => σ.length = n → W cls d σ H) := by subst hn; exact takes_len tk
theorem ok_wr {f CC CK CY CL CM fK fY fL fM fW : Addr} {fd fdW : FuncData} (F : Fun K "_law_ways_right" "_law_ways_right" s__law_ways_right f fd) (C : CodeK P w K mg base CC CK CY CL CM) (X : EXA P K mg CK CY CL CM fK fY fL fM)
    (OE : OwnD P w K mg base CC "__eq__" 1 ["self", "other"] (spCEq CC)) (GW : FnOk P w K mg base (L2.CX P w) 12 fW fdW ["self", "way"] (spInWay K CC CK CY CL CM)) (bW : L2.Binds K fdW ["self", "way"] []) (mW : Meth K CC "in_way" fW) (yy : PySem.W.exmOne K (.ref CY) (.ref CY) = some true) :
    FnOk P w K mg base CX0 13 f fd ["code", "kind", "text"] (spWR CC) := by
  obtain ⟨T, fI, dI, M, GI, bI⟩ := C
  refine F.ok scWR (fun vs H Q E h => ?_) (fun cdv A outer s H vs Q E hr h => ?_)
  · obtain ⟨p, k, x, text, rfl, _⟩ := h
    rfl
  · obtain ⟨p, k, x, text, rfl, ca, hk, hx, G, kQ⟩ := h
    have hr11 : Room 11 _ := hr.mono (by decide)
    have hr2 : Room 2 _ := hr.mono (by decide)
    have hr1 : Room 1 _ := hr.mono (by decide)
    have hu : (A.deeper (envOfC "_law_ways_right" (defScope s__law_ways_right) s.heap.objs.size f cdv)).units + 65 < cLine := by have := hr.un; omega
    refine ⟨_, pss_cons (ps_for PassesOwn.never rfl (pi_list (pe_lst (pa_cons pe_str (pa_cons pe_str (pa_cons pe_str pa_nil))))) (pg_name (i := 3) scWR.nd rfl (Or.inl rfl))
        (pss_cons (ps_set (i := 4) scWR.nd rfl (Or.inl rfl) (pe_meth (E := fun _ _ _ => False) (pv 0) T.t.cl mW GW hr bW .nil (passes_call takes0 (fun _ _ _ _ z => z)) (pa_cons (pv 3) pa_nil)))
        (pss_one (ps_if (PW.pt (pw_or (pt_cmpR (op_neI OE T.ne T.mo T.ss hr2 hu pass0) (pv 4) (pe_make (E := fun _ _ _ => False) M GI hr11 (by rfl) T.t.gC bI .nil (passes_call takes0 (fun _ _ _ _ z => z)) (pa_cons (pv 1) (pa_cons (pv 3) (pa_cons (pv 2) pa_nil)))) (nomark _))
          (pw_or (pt_cmpR op_ne (pe_cmpR (op_eqI OE T.ss hr1 pass0) (pv 4) (pv 0) (nomark _)) (pe_cmpR op_eq (pv 3) (pe_fld (pv 0) rfl) (nomark _)) (nomark _)) (pw_or1 (pt_cmpR op_ne (pe_fld (pv 4) rfl) (pv 3) (nomark _)))))) pss_no pss_nil))))
      (pss_cons (ps_try_cl (Wout := fun _ _ _ _ => False) rfl rfl scWR.nd takes0
        (fun W pn xe tk _ => pss_one (ps_expr (pe_meth (E := fun cls d H' => ∀ σ : L2.St, σ.length = 6 → W cls d σ H') (pv 0) T.t.cl mW GW hr bW .nil (passes_call (takes_lenN 6 rfl tk) (fun _ _ σ _ z hl => z σ hl)) (pa_cons pe_str pa_nil))))
        (.named (i := 5) rfl rfl ⟨rfl, by decide, Or.inl X.way.gC⟩ (fun a oe cls d pn hz hf hb => pss_one (ps_ret (pe_cmpR op_eq (pe_xf (xf_of X.way) (X.way.noN _ List.mem_cons_self) hz hf (pv 5)) pe_str (nomark _))))
        .nil))
      pss_no), ?_⟩
    refine ⟨(by show 3 ≤ sizeLine; decide), fun l hl => ?_⟩
    have s0 := same_upd (o := .lst (waysL.map V.str)) hl
    refine ⟨l, rfl, ⟨_, SqL.of upd_same⟩, for_list (K := K) (a := l) (xs := waysL.map V.str) (fun i σ H' => (∃ x3 x4, σ = [some (.ref p), some (.str k), some (.str text), x3, x4, none]) ∧ Same H H' ∧ H' l = some (.lst (waysL.map V.str))) ⟨⟨_, _, rfl⟩, s0, upd_same⟩ (fun i σ H' _ h => SqL.of h.2.2) ?_ ?_⟩
    · rintro i y σ H1 hy ⟨⟨x3, x4, rfl⟩, s1, h1⟩
      rw [List.getElem?_map] at hy
      obtain ⟨wy, hw, rfl⟩ := Option.map_eq_some_iff.mp hy
      have wm : wayM wy = true := by
        have : ∀ z ∈ waysL, wayM z = true := by decide +kernel
        exact this wy (List.mem_of_getElem? hw)
      obtain ⟨dx, tt, tp, c1, c2⟩ := id (ca.same s1)
      refine ⟨_, rfl, p, dx, _, rfl, c1, cd_no _ _ _ _ _ (by decide +kernel), _, rfl, p, k, x, text, .str wy, rfl, ca.same s1, G.code hk wm fun q H2 hq s2 cq => ?_⟩
      obtain ⟨dq, ut, up, g1, g2⟩ := id cq
      refine ⟨_, rfl, _, rfl, _, rfl, _, rfl, ?_⟩
      refine code_made (CC := CC) (Q := fun v H2 => rNeI K CC (spCEq CC) (.ref q) v H2 _) (G.code hk wm fun q3 H3 hq3 s3 cq3 => ?_)
      have cq' := cq.same s3
      have ca3 := ((ca.same s1).same s2).same s3
      obtain ⟨d3, u3, v3, i1, i2⟩ := id cq3
      obtain ⟨dp, up3, vp3, j1, j2⟩ := id ca3
      refine ⟨q, _, _, rfl, s3 _ _ g1, .inl ⟨q3, _, _, rfl, i1⟩, q, k, wy, text, .ref q3, rfl, cq', .inl ⟨q3, k, wy, text, rfl, cq3, _, rfl, _, rfl, ?_⟩⟩
      rw [decide_eq_true (⟨rfl, rfl, rfl⟩ : k = k ∧ wy = wy ∧ text = text)]
      refine iteF ?_
      refine ⟨_, rfl, _, rfl, q, _, _, rfl, s3 _ _ g1, .inl ⟨p, _, _, rfl, j1⟩, q, k, wy, text, .ref p, rfl, cq', .inl ⟨p, k, x, text, rfl, ca3, _, rfl, ?_⟩⟩
      refine ⟨_, rfl, _, rfl, p, CC, dp, _, _, rfl, j1, T.t.cl, T.t.no _ (by simp [codeNames]), cd_way .., rfl, rfl, _, rfl, ?_⟩
      have e : (!decide (V.bl (decide (k = k ∧ wy = x ∧ text = text)) = V.bl (decide (V.str wy = V.str x)))) = false := by
        by_cases z : wy = x
        · rw [decide_eq_true (⟨rfl, z, rfl⟩ : k = k ∧ wy = x ∧ text = text), decide_eq_true (congrArg V.str z)]; rfl
        · rw [decide_eq_false (fun h : k = k ∧ wy = x ∧ text = text => z h.2.1), decide_eq_false (fun h => z (V.str.inj h))]; rfl
      rw [e]
      refine iteF ⟨_, rfl, q, CC, dq, _, _, rfl, s3 _ _ g1, T.t.cl, T.t.no _ (by simp [codeNames]), cd_way .., _, rfl, rfl, _, rfl, ?_⟩
      rw [show (!decide (V.str wy = V.str wy)) = false by rw [decide_eq_true rfl]; rfl]
      refine iteF ⟨⟨_, _, rfl⟩, (s1.trans s2).trans s3, s3 _ _ (s2 _ _ h1)⟩
    · rintro σ H1 ⟨⟨x3, x4, rfl⟩, s1, h1⟩
      obtain ⟨dx, tt, tp, c1, c2⟩ := id (ca.same s1)
      refine ⟨_, rfl, p, dx, _, rfl, c1, cd_no _ _ _ _ _ (by decide +kernel), p, k, x, text, .str "Plain", rfl, ca.same s1, ?_⟩
      refine .inr ⟨k, rfl, hk, .inl ⟨.inl ⟨"Plain", rfl, by decide +kernel⟩, fun H' dd s2 n σ hl => ⟨true, yy, fun _ a0 na => ?_, fun z => nomatch z⟩⟩⟩
      refine ⟨_, (by rw [List.getElem?_set, if_pos rfl, if_pos (by omega)]), rfl, rfl, dd, _, _, rfl, upd_same, rfl, rfl, ?_⟩
      exact kQ _ ((s1.trans s2).trans (same_upd n))
end
end K40

namespace L2
open PySem PySem.Spec PyProof.Rows
/-- a text, times 0 or 1 -/
def rMulS : R2 := fun x y H Q => ∃ (a : Str) (b : Bool), x = .str a ∧ y = .int (if b = true then 1 else 0) ∧ Q (.str (if b = true then a else "")) H
theorem mul_zero (a : Str) : Txt.mul a 0 = "" := by unfold Txt.mul; rw [if_pos (by decide)]; rfl
theorem op_mulS {X : Cx} : OpR X (binaryOp .Mult) rMulS := by
  intro pins s σ H x y v u Q I rx ry h
  obtain ⟨a, b, rfl, rfl, q⟩ := h
  obtain ⟨t, rfl⟩ := rx
  obtain ⟨t2, rfl⟩ := ry
  cases b with
  | true =>
    refine SB.mul (n := 1) ⟨by decide, fun _ h => (by simp at h), fun _ h => (by simp at h)⟩ fun t' k => ⟨.str a, H, I.tok k, ⟨t', ?_⟩, q⟩
    have : Txt.mul a 1 = a := by
      unfold Txt.mul
      rw [if_neg (by decide)]
      simp
    rw [this]
  | false =>
    refine SB.mul (n := 0) ⟨by decide, fun h _ => absurd (by decide) h, fun h _ => absurd (by decide) h⟩ fun t' k => ⟨.str "", H, I.tok k, ⟨t', ?_⟩, q⟩
    rw [mul_zero]
end L2

namespace K40
open PySem PySem.Spec PyProof.Rows L2 Fm PySem.RingX
def nLaw : List Str := ["script", "bag", "kinds", "ways", "odd", "kind", "way", "lines", "text", "code", "k", "wrong", "no_way", "long", "many", "due"]
theorem scLaw : FnScope nLaw ["script"] (defScope s_law) := ⟨rfl, rfl, rfl, by decide +kernel, rfl, by decide +kernel, by decide +kernel⟩
/-- a value that is no kind and no way -/
structure Odd (K : PySem.W.Frag) (H : Hp) (v : V) : Prop where
  no : (∃ z, v = .str z ∧ kindM z = false ∧ wayM z = false) ∨ NotStr K H v
  fl : flatB v = true ∨ ∃ c, v = .ref c
theorem Odd.keep {K : PySem.W.Frag} {H H' : Hp} {v : V} (o : Odd K H v) (s : Same H H') : Odd K H' v := ⟨o.no.imp id fun n => n.keep s, o.fl⟩
theorem Odd.kind {K : PySem.W.Frag} {H : Hp} {v vw : V} {T : Str} (o : Odd K H v) : ToldC K v vw T H [.str "kind", v] := .inl ⟨o.no.imp (fun ⟨z, a, b, _⟩ => ⟨z, a, b⟩) id, rfl⟩
theorem Odd.way {K : PySem.W.Frag} {H : Hp} {v : V} {k T : Str} (o : Odd K H v) (hk : kindM k = true) : ToldC K (.str k) v T H [.str "way", v] := .inr ⟨k, rfl, hk, .inl ⟨o.no.imp (fun ⟨z, a, _, b⟩ => ⟨z, a, b⟩) id, rfl⟩⟩
theorem good_nil : GoodT "" ∧ linesOfM "" = [] := by
  have := good_drawn (i := 1) (by decide) (by decide) (bs := []) (by decide) (by decide)
  have e : Txt.join "\n" (txtB 1 []) = "" := by decide +kernel
  rw [e] at this
  exact this
section
variable {P : Program} {w : World} {K : PySem.W.Frag} {mg : Str → Option Value} {base : Heap}
theorem len_made {CC CK CY CL CM : Addr} {vk vw : V} {text : Str} {H : Hp} {E : XK} {Qc : VK} (c : CodeC K CK CY CL CM vk vw text H E fun k x => ∀ (q : Addr) (H' : Hp), H q = none → Same H H' → CodeAt CC H' q k x text → rLenI CC (spCLen CC) [.ref q] H' Qc) :
    ∀ x dx, H x = none → H dx = none → dx ≠ x → spCodeI K CC CK CY CL CM (.ref x :: ([vk, vw, V.str text] ++ [])) (upd (upd H dx (.own x)) x (.ins CC dx [])) (fun v H2 => v = .non ∧ rLenI CC (spCLen CC) [.ref x] H2 Qc) E := code_made (Q := fun v H2 => rLenI CC (spCLen CC) [v] H2 Qc) c
theorem law_tail {A : Around} {outer : List Env} {s : Shared} {H : Hp} {E : XK} {cdv : Value} {f fT fO fR fY CC CK CY CL CM : Addr} {dT dO dR dY : FuncData} (hr : Room 13 (A.deeper (envOfC "law" (defScope s_law) s.heap.objs.size f cdv))) (TG : GB mg) (C : CodeK P w K mg base CC CK CY CL CM)
    (ON : OwnD P w K mg base CC "__len__" 1 ["self"] (spCLen CC))
    (GT : FnOk P w K mg base CX0 12 fT dT ["kind", "way", "text"] (spTold K)) (gT : mg "_law_told" = some (.ref fT)) (kT : PySem.W.keepIn K (.ref fT) = true) (bT : L2.Binds K dT ["kind", "way", "text"] [])
    (GO : FnOk P w K mg base CX0 13 fO dO ["kind", "way"] (spKW K)) (gO : mg "_law_order_right" = some (.ref fO)) (kO : PySem.W.keepIn K (.ref fO) = true) (bO : L2.Binds K dO ["kind", "way"] [])
    (GR : FnOk P w K mg base CX0 13 fR dR ["kind", "way"] (spKW K)) (gR : mg "_law_ifs_right" = some (.ref fR)) (kR : PySem.W.keepIn K (.ref fR) = true) (bR : L2.Binds K dR ["kind", "way"] [])
    (GY : FnOk P w K mg base CX0 13 fY dY ["code", "kind", "text"] (spWR CC)) (gY : mg "_law_ways_right" = some (.ref fY)) (kY : PySem.W.keepIn K (.ref fY) = true) (bY : L2.Binds K dY ["code", "kind", "text"] []):
    ∃ t, PSs (cxOf CX0 P w K mg base nLaw "law" (defScope s_law) f cdv A outer s H E).nox ((defBody s_law).drop 15) t ∧
      ∀ (k x T : Str), kindM k = true → wayM x = true → GoodT T → ∀ (D : Ends) (Q : VK) (p d : Addr) (v1 v2 : V) (TL : Str) (out : List V) (H1 : Hp) (x0 x1 x2 x3 x4 x7 x10 x14 : Option V), D.rt = Q → (∀ H', Q (.bl true) H') → CodeAt CC H1 p k x T → Odd K H1 v1 → Odd K H1 v2 → ToldC K (.str k) (.str x) TL H1 out → H1 d = some (.tup out) → (∀ v ∈ out, flatB v = true) →
        t D [x0, x1, x2, x3, x4, some (.str k), some (.str x), x7, some (.str T), some (.ref p), x10, some v1, some v2, some (.str TL), x14, some (.ref d)] H1 := by
  obtain ⟨TT, fI, dI, M, GI, bI⟩ := C
  have hr12 : Room 12 _ := hr.mono (by decide)
  have hr11 : Room 11 _ := hr.mono (by decide)
  have hr2 : Room 2 _ := hr.mono (by decide)
  have hu : (A.deeper (envOfC "law" (defScope s_law) s.heap.objs.size f cdv)).units < cLine := by have := hr.un; omega
  refine ⟨_, pss_cons (ps_if (PW.pt (pw_or (pt_cmpR (op_neS hu) (pe_call GT hr12 (by rfl) gT kT bT .nil pass0 (pa_cons (pv 5) (pa_cons (pv 6) (pa_cons (pv 13) pa_nil)))) (pv 15) (nomark _))
        (pw_or1 (pt_cmpR (op_neS hu) (pe_call GT hr12 (by rfl) gT kT bT .nil pass0 (pa_cons (pv 11) (pa_cons (pv 12) (pa_cons (pv 13) pa_nil)))) (pe_tup (pa_cons pe_str (pa_cons (pv 11) pa_nil))) (nomark _))))) pss_no pss_nil)
    (pss_cons (ps_if (PW.pt (pw_or (pt_cmpR (op_neS hu) (pe_call GT hr12 (by rfl) gT kT bT .nil pass0 (pa_cons (pv 5) (pa_cons (pv 12) (pa_cons (pv 13) pa_nil)))) (pe_tup (pa_cons pe_str (pa_cons (pv 12) pa_nil))) (nomark _))
        (pw_or1 (pt_cmpR op_ne (pe_callB (call_lenI ON hr2 pass0) (by rfl) TG.len PySem.boot_len (pa_cons (pe_make (E := fun _ _ _ => False) M GI hr11 (by rfl) TT.t.gC bI .nil (passes_call takes0 (fun _ _ _ _ z => z)) (pa_cons (pv 5) (pa_cons (pv 6) (pa_cons pe_str pa_nil)))) pa_nil)) pe_int (nomark _))))) pss_no pss_nil)
    (pss_cons (ps_if (pt_not (pt_val (pe_call GR hr (by rfl) gR kR bR .nil pass0 (pa_cons (pv 5) (pa_cons (pv 6) pa_nil))))) pss_no pss_nil)
    (pss_one (ps_ret (pe_and (pe_call GO hr (by rfl) gO kO bO .nil pass0 (pa_cons (pv 5) (pa_cons (pv 6) pa_nil))) (pe_one (pe_call GY hr (by rfl) gY kY bY .nil pass0 (pa_cons (pv 9) (pa_cons (pv 5) (pa_cons (pv 8) pa_nil)))))))))), ?_⟩
  intro k x T hk hx G D Q p d v1 v2 TL out H1 x0 x1 x2 x3 x4 x7 x10 x14 hD kQ ca o1 o2 td hd fl
  refine ⟨_, rfl, _, rfl, _, rfl, .str k, .str x, TL, out, rfl, td, fun q1 H2 hq1 s1 e1 => ⟨_, rfl, q1, d, out, rfl, rfl, SqT.of e1, SqT.of (s1 _ _ hd), fun v hv => .inl (fl v hv), _, rfl, iteF ?_⟩⟩
  refine ⟨_, rfl, _, rfl, _, rfl, v1, v2, TL, _, rfl, (o1.keep s1).kind, fun q2 H3 hq2 s2 e2 => ⟨_, rfl, (by show 2 ≤ sizeLine; decide), fun u1 hu1 => ?_⟩⟩
  have s3 := same_upd (o := .tup [V.str "kind", v1]) hu1
  refine ⟨q2, u1, _, rfl, rfl, SqT.of (s3 _ _ e2), SqT.of upd_same, (by
    intro v hv
    rcases List.mem_cons.mp hv with rfl | hv
    · exact .inl rfl
    · rw [List.mem_singleton.mp hv]; exact o1.fl), _, rfl, iteF ?_⟩
  have s13 := (s1.trans s2).trans s3
  refine ⟨_, rfl, _, rfl, _, rfl, .str k, v2, TL, _, rfl, (o2.keep s13).way hk, fun q3 H5 hq3 s4 e3 => ⟨_, rfl, (by show 2 ≤ sizeLine; decide), fun u2 hu2 => ?_⟩⟩
  have s5 := same_upd (o := .tup [V.str "way", v2]) hu2
  refine ⟨q3, u2, _, rfl, rfl, SqT.of (s5 _ _ e3), SqT.of upd_same, (by
    intro v hv
    rcases List.mem_cons.mp hv with rfl | hv
    · exact .inl rfl
    · rw [List.mem_singleton.mp hv]; exact o2.fl), _, rfl, iteF ?_⟩
  refine ⟨_, rfl, _, rfl, ?_⟩
  refine len_made (CC := CC) (good_nil.1.code hk hx fun q4 H6 hq4 s6 c4 => ?_)
  obtain ⟨d4, u4, w4, i1, i2⟩ := id c4
  refine ⟨q4, _, _, rfl, i1, q4, k, x, "", rfl, c4, _, rfl, by omega, by rw [good_nil.2]; decide, rfl, _, rfl, ?_⟩
  rw [good_nil.2]
  refine iteF ?_
  have sA := (s13.trans (s4.trans s5)).trans s6
  refine ⟨_, rfl, _, rfl, k, x, rfl, hk, hx, fun H7 s7 => ⟨true, rfl, iteF ?_⟩⟩
  refine ⟨_, rfl, _, rfl, k, x, rfl, hk, hx, fun H8 s8 => ⟨true, rfl, iteT ?_⟩⟩
  refine ⟨_, rfl, _, rfl, _, rfl, p, k, x, T, rfl, ca.same (sA.trans (s7.trans s8)), hk, hx, G, fun H9 s9 => ?_⟩
  rw [hD]
  exact kQ H9
end
end K40

namespace K40
open PySem PySem.Spec PyProof.Rows L2 Fm PySem.RingX
/-- the nine odd values -/
structure OddAt (H : Hp) (b od a1 a2 a3 : Addr) : Prop where
  ho : H od = some (.lst [.str "Find", .str "", .str "get", .int 5, .non, .ref a1, .ref a2, .ref a3, .bl true])
  h1 : H a1 = some (.lst [.str "put"])
  h2 : H a2 = some (.tup [.str "put"])
  h3 : ∃ kvs, H a3 = some (.dK kvs)
  nb : a3 ≠ b
theorem OddAt.but {H H' : Hp} {b od a1 a2 a3 : Addr} {kvs : List (Key × V)} (o : OddAt H b od a1 a2 a3) (hb : H b = some (.dK kvs)) (s : SameBut b H H') : OddAt H' b od a1 a2 a3 := by
  obtain ⟨ho, h1, h2, ⟨kv, h3⟩, nb⟩ := o
  exact ⟨s _ _ (ne_of ho hb (fun z => nomatch z)) ho, s _ _ (ne_of h1 hb (fun z => nomatch z)) h1, s _ _ (ne_of h2 hb (fun z => nomatch z)) h2, ⟨kv, s _ _ nb h3⟩, nb⟩
theorem OddAt.same {H H' : Hp} {b od a1 a2 a3 : Addr} (o : OddAt H b od a1 a2 a3) (s : Same H H') : OddAt H' b od a1 a2 a3 := by
  obtain ⟨ho, h1, h2, ⟨kv, h3⟩, nb⟩ := o
  exact ⟨s _ _ ho, s _ _ h1, s _ _ h2, ⟨kv, s _ _ h3⟩, nb⟩
theorem OddAt.at_ {K : PySem.W.Frag} {H : Hp} {b od a1 a2 a3 : Addr} (o : OddAt H b od a1 a2 a3) {r : Int} (h0 : 0 ≤ r) (h9 : r < 9) : ∃ v, atI [V.str "Find", .str "", .str "get", .int 5, .non, .ref a1, .ref a2, .ref a3, .bl true] r = some v ∧ ∀ H', (H' a1 = H a1 ∧ H' a2 = H a2 ∧ H' a3 = H a3) → Odd K H' v := by
  obtain ⟨ho, h1, h2, ⟨kv, h3⟩, nb⟩ := o
  obtain ⟨n, rfl⟩ : ∃ n : Nat, r = n := ⟨r.toNat, by omega⟩
  have n9 : n < 9 := by omega
  match n, n9 with
  | 0, _ => exact ⟨_, atI_nat rfl, fun H' _ => ⟨.inl ⟨_, rfl, by decide +kernel, by decide +kernel⟩, .inl rfl⟩⟩
  | 1, _ => exact ⟨_, atI_nat rfl, fun H' _ => ⟨.inl ⟨_, rfl, by decide +kernel, by decide +kernel⟩, .inl rfl⟩⟩
  | 2, _ => exact ⟨_, atI_nat rfl, fun H' _ => ⟨.inl ⟨_, rfl, by decide +kernel, by decide +kernel⟩, .inl rfl⟩⟩
  | 3, _ => exact ⟨_, atI_nat rfl, fun H' _ => ⟨.inr ⟨"int", .base (.int 5), by decide +kernel⟩, .inl rfl⟩⟩
  | 4, _ => exact ⟨_, atI_nat rfl, fun H' _ => ⟨.inr ⟨"NoneType", .base .non, by decide +kernel⟩, .inl rfl⟩⟩
  | 5, _ => exact ⟨_, atI_nat rfl, fun H' e => ⟨.inr ⟨"list", .base (.lst (e.1.trans h1)), by decide +kernel⟩, .inr ⟨_, rfl⟩⟩⟩
  | 6, _ => exact ⟨_, atI_nat rfl, fun H' e => ⟨.inr ⟨"tuple", .base (.tup (e.2.1.trans h2)), by decide +kernel⟩, .inr ⟨_, rfl⟩⟩⟩
  | 7, _ => exact ⟨_, atI_nat rfl, fun H' e => ⟨.inr ⟨"dict", .base (.dK (e.2.2.trans h3)), by decide +kernel⟩, .inr ⟨_, rfl⟩⟩⟩
  | 8, _ => exact ⟨_, atI_nat rfl, fun H' _ => ⟨.inr ⟨"bool", .base (.bl true), by decide +kernel⟩, .inl rfl⟩⟩
/-- long, of n lines -/
def longT (n : Nat) : Str := Txt.join "\n" (txtB 1 (List.replicate n 0))
theorem txt_rep : ∀ n : Nat, txtB 1 (List.replicate n 0) = (List.replicate n (["low = none"] : List Str)).flatten
  | 0 => rfl
  | n + 1 => by
    rw [List.replicate_succ, List.replicate_succ, List.flatten_cons, ← txt_rep n]
    rfl
theorem rep_len (n : Nat) : (txtB 1 (List.replicate n 0)).length = n := by
  induction n with
  | zero => rfl
  | succ n ih => rw [List.replicate_succ]; show ((["low = none"] : List Str) ++ txtB 1 (List.replicate n 0)).length = _; rw [List.length_append, ih]; show 1 + n = n + 1; omega
theorem long_lines (n : Nat) : linesOfM (longT n) = txtB 1 (List.replicate n 0) := lines_join (good_txt (by decide) (by decide) _)
theorem long_asc {n : Nat} (h : n ≤ 100) : Asc (longT n) ∧ (longT n).length ≤ 51 * 100 := by
  obtain ⟨j1, j2⟩ := join_ok _ (good_txt (i := 1) (by decide) (by decide) (List.replicate n 0))
  rw [rep_len] at j2
  unfold longT
  rw [TL.join_eq]
  exact ⟨⟨j1, by omega⟩, by omega⟩
theorem long_told {K : PySem.W.Frag} {H : Hp} {k x : Str} (hk : kindM k = true) (hx : wayM x = true) {n : Nat} (h : n ≤ 100) : ToldC K (.str k) (.str x) (longT n) H (if 60 < n then [.str "many", .str "lines", .int n, .int 60] else [.str "made", .str k, .str x, .str (longT n), .int n]) := by
  have ll : (linesOfM (longT n)).length = n := by rw [long_lines, rep_len]
  by_cases c : 60 < n
  · rw [if_pos c]
    obtain ⟨a1, a2⟩ := long_asc h
    exact .inr ⟨k, rfl, hk, .inr ⟨x, rfl, hx, a1, by omega, by omega, by omega, .inl ⟨by omega, by rw [ll]⟩⟩⟩
  · rw [if_neg c]
    have s0 : ((List.replicate n 0).map ifB_).sum = 0 := by
      induction n with
      | zero => rfl
      | succ m ih => rw [List.replicate_succ, List.map_cons, List.sum_cons, ih (by omega) (by rw [long_lines, rep_len]) (by omega)]; rfl
    have g := (good_drawn (i := 1) (by decide) (by decide) (bs := List.replicate n 0) (by rw [rep_len]; omega) (by omega)).1
    have := GoodT.told (K := K) (H := H) g hk hx
    rw [show (linesOfM (Txt.join "\n" (txtB 1 (List.replicate n 0)))).length = n from ll] at this
    exact this
end K40

namespace K40
open PySem PySem.Spec PyProof.Rows L2 Fm PySem.RingX
section
variable {P : Program} {w : World} {K : PySem.W.Frag} {mg : Str → Option Value} {base : Heap}
theorem law_odd {A : Around} {outer : List Env} {s : Shared} {H : Hp} {E : XK} {cdv : Value} {f fD CC : Addr} {dD : FuncData} {tA : TS} (hr : Room 13 (A.deeper (envOfC "law" (defScope s_law) s.heap.objs.size f cdv))) (TG : GB mg)
    (GD : FnOk P w K mg base CX0 1 fD dD ["bag", "limit"] spDraw) (gD : mg "_law_draw" = some (.ref fD)) (kD : PySem.W.keepIn K (.ref fD) = true) (bD : L2.Binds K dD ["bag", "limit"] [])
    (pA : PSs (cxOf CX0 P w K mg base nLaw "law" (defScope s_law) f cdv A outer s H E).nox ((defBody s_law).drop 15) tA)
    (qA : ∀ (k x T : Str), kindM k = true → wayM x = true → GoodT T → ∀ (D : Ends) (Q : VK) (p d : Addr) (v1 v2 : V) (TL : Str) (out : List V) (H1 : Hp) (x0 x1 x2 x3 x4 x7 x10 x14 : Option V), D.rt = Q → (∀ H', Q (.bl true) H') → CodeAt CC H1 p k x T → Odd K H1 v1 → Odd K H1 v2 → ToldC K (.str k) (.str x) TL H1 out → H1 d = some (.tup out) → (∀ v ∈ out, flatB v = true) →
        tA D [x0, x1, x2, x3, x4, some (.str k), some (.str x), x7, some (.str T), some (.ref p), x10, some v1, some v2, some (.str TL), x14, some (.ref d)] H1) :
    ∃ t, PSs (cxOf CX0 P w K mg base nLaw "law" (defScope s_law) f cdv A outer s H E).nox ((defBody s_law).drop 11) t ∧
      ∀ (k x T : Str), kindM k = true → wayM x = true → GoodT T → ∀ (D : Ends) (Q : VK) (p b c od a1 a2 a3 : Addr) (ns : List Int) (ct : Int) (H1 : Hp) (x0 x2 x3 x7 x10 : Option V), D.rt = Q → (∀ H', Q (.bl true) H') → CodeAt CC H1 p k x T → BagAt H1 b c ns ct → 0 ≤ ct → ct < 900000 → ns.length < 1000 → OddAt H1 b od a1 a2 a3 →
        t D [x0, some (.ref b), x2, x3, some (.ref od), some (.str k), some (.str x), x7, some (.str T), some (.ref p), x10, none, none, none, none, none] H1 := by
  have hr1 : Room 1 _ := hr.mono (by decide)
  refine ⟨_, pss_cons (ps_par (i := 11) (j := 12) rfl scLaw.nd rfl rfl (by decide) rfl rfl (pa_cons (pe_ix ix_list (pv 4) (pe_call GD hr1 (by rfl) gD kD bD .nil pass0 (pa_cons (pv 1) (pa_cons pe_int pa_nil))) (fun _ _ => rfl)) (pa_cons (pe_ix ix_list (pv 4) (pe_call GD hr1 (by rfl) gD kD bD .nil pass0 (pa_cons (pv 1) (pa_cons pe_int pa_nil))) (fun _ _ => rfl)) pa_nil)) (by rfl))
    (pss_cons (ps_set (i := 13) scLaw.nd rfl (Or.inl rfl) (pe_join pe_str (pe_op op_rep (pe_lst (pa_cons pe_str pa_nil)) (pe_op op_add pe_int (pe_call GD hr1 (by rfl) gD kD bD .nil pass0 (pa_cons (pv 1) (pa_cons pe_int pa_nil)))))))
    (pss_cons (ps_set (i := 14) scLaw.nd rfl (Or.inl rfl) (pe_callB call_len_seq (by rfl) TG.len PySem.boot_len (pa_cons (pe_split (pv 13) pe_str) pa_nil)))
    (pss_cons (ps_set (i := 15) scLaw.nd rfl (Or.inl rfl) (pe_ifExp (pt_cmpR op_gt (pv 14) pe_int (nomark _)) (pe_tup (pa_cons pe_str (pa_cons pe_str (pa_cons (pv 14) (pa_cons pe_int pa_nil))))) (pe_tup (pa_cons pe_str (pa_cons (pv 5) (pa_cons (pv 6) (pa_cons (pv 13) (pa_cons (pv 14) pa_nil))))))))
    pA))), ?_⟩
  intro k x T hk hx G D Q p b c od a1 a2 a3 ns ct H1 x0 x2 x3 x7 x10 hD kQ ca B c0 c1 hns O
  have off : ∀ {H : Hp} {q : Addr} {o : HO} {kvs : List (Key × V)}, H q = some o → (∀ l, o ≠ .dK l) → H b = some (.dK kvs) → q ≠ b := fun h n hb => ne_of h hb (fun z => n _ z)
  have cab2 : ∀ {H H' : Hp} {ct : Int}, CodeAt CC H p k x T → BagAt H b c ns ct → SameBut b H H' → CodeAt CC H' p k x T := fun ca B s => by
    obtain ⟨kv, hb⟩ := B.dk
    obtain ⟨dx, tt, tp, h1, h2⟩ := ca
    exact ⟨dx, tt, tp, s _ _ (ne_of h1 hb (fun z => nomatch z)) h1, s _ _ (ne_of h2 hb (fun z => nomatch z)) h2⟩
  obtain ⟨kb1, hb1⟩ := B.dk
  refine ⟨_, rfl, _, rfl, b, c, 9, ns, ct, rfl, B, c0, by omega, by decide, by decide, hns, fun r H2 r0 r1 B2 sb2 => ?_⟩
  have O2 := O.but hb1 sb2
  obtain ⟨v1, at1, od1⟩ := O2.at_ (K := K) r0 r1
  obtain ⟨kb2, hb2⟩ := B2.dk
  refine ⟨_, _, _, v1, rfl, rfl, SqL.of O2.ho, at1, ?_⟩
  refine ⟨_, rfl, _, rfl, b, c, 9, ns, ct + 1, rfl, B2, by omega, by omega, by decide, by decide, hns, fun r' H3 r0' r1' B3 sb3 => ?_⟩
  have O3 := O2.but hb2 sb3
  obtain ⟨v2, at2, od2⟩ := O3.at_ (K := K) r0' r1'
  obtain ⟨kb3, hb3⟩ := B3.dk
  refine ⟨_, _, _, v2, rfl, rfl, SqL.of O3.ho, at2, v1, v2, rfl, ?_⟩
  have ca3 := cab2 (cab2 ca B sb2) B2 sb3
  refine ⟨⟨_, rfl⟩, (by show 1 ≤ sizeLine; decide), fun l hl => ?_⟩
  have s4 := same_upd (o := .lst [V.str "low = none"]) hl
  have B4 := B3.keep s4
  have O4 := O3.same s4
  have ca4 := ca3.same s4
  obtain ⟨kb4, hb4⟩ := B4.dk
  have l4 : upd H3 l (.lst [V.str "low = none"]) l = some (.lst [V.str "low = none"]) := upd_same
  refine ⟨_, rfl, b, c, 4, ns, ct + 1 + 1, rfl, B4, by omega, by omega, by decide, by decide, hns, fun m H5 m0 m1 B5 sb5 => ?_⟩
  have O5 := O4.but hb4 sb5
  have ca5 := cab2 ca4 B4 sb5
  have l5 := sb5 _ _ (ne_of l4 hb4 (fun z => nomatch z)) l4
  obtain ⟨n, hn⟩ : ∃ n : Nat, (59 + m).toNat = n := ⟨_, rfl⟩
  have n4 : n = 59 ∨ n = 60 ∨ n = 61 ∨ n = 62 := by omega
  have em : 59 + m = (n : Int) := by omega
  refine ⟨_, _, rfl, rfl, l, 59 + m, _, rfl, rfl, l5, by omega, by omega, (by rw [hn]; show 1 * n ≤ sizeLine; rw [sizeLine_eq]; omega), fun p2 hp2 => ?_⟩
  have ey : (List.replicate (59 + m).toNat [V.str "low = none"]).flatten = (txtB 1 (List.replicate n 0)).map V.str := by
    rw [hn, txt_rep, List.map_flatten, List.map_replicate]
    rfl
  have s6 := same_upd (o := .lst (List.replicate (59 + m).toNat [V.str "low = none"]).flatten) hp2
  have k6 : upd H5 p2 (.lst (List.replicate (59 + m).toNat [V.str "low = none"]).flatten) p2 = some (.lst ((txtB 1 (List.replicate n 0)).map V.str)) := by rw [upd_same, ey]
  refine ⟨"\n", p2, txtB 1 (List.replicate n 0), rfl, rfl, .inl (SqL.of k6), (by rcases n4 with rfl | rfl | rfl | rfl <;> decide +kernel), ?_⟩
  have la := long_asc (n := n) (by omega)
  have sl : Txt.split (longT n) "\n" = txtB 1 (List.replicate n 0) := by
    have e := long_lines n
    unfold linesOfM at e
    by_cases z : longT n = ""
    · rw [if_pos z] at e
      have := congrArg List.length e
      rw [rep_len] at this
      have this : 0 = n := this
      omega
    · rwa [if_neg z] at e
  refine ⟨_, rfl, ⟨_, rfl⟩, longT n, "\n", rfl, rfl, by decide +kernel, by rw [sizeLine_eq]; omega, fun p3 hp3 => ?_⟩
  have s7 := same_upd (o := .lst ((txtB 1 (List.replicate n 0)).map V.str)) hp3
  refine ⟨p3, _, rfl, .inl (SqL.of upd_same), ?_⟩
  rw [List.length_map, sl, rep_len]
  have s67 := s6.trans s7
  have sx : ∀ {H' : Hp}, Same (upd (upd H5 p2 (.lst (List.replicate (59 + m).toNat [V.str "low = none"]).flatten)) p3 (.lst ((txtB 1 (List.replicate n 0)).map V.str))) H' → Same H5 H' := fun s => s67.trans s
  refine ⟨_, rfl, _, _, rfl, rfl, _, rfl, ?_⟩
  have td := fun H' => long_told (K := K) (H := H') hk hx (n := n) (by omega)
  have keep : ∀ {H' : Hp}, Same H5 H' → CodeAt CC H' p k x T ∧ Odd K H' v1 ∧ Odd K H' v2 := fun {H'} s => by
    obtain ⟨kv3, h3⟩ := O5.h3
    have o35 : ∀ {q : Addr} {o : HO}, q ≠ b → H3 q = some o → H5 q = some o := fun {q o} n h => sb5 _ _ n (s4 _ _ h)
    have nb1 := ne_of O3.h1 hb3 (fun z => nomatch z)
    have nb2 := ne_of O3.h2 hb3 (fun z => nomatch z)
    obtain ⟨kv, h33⟩ := O3.h3
    obtain ⟨kv2, h23⟩ := O2.h3
    have e1 := o35 nb1 O3.h1
    have e2 := o35 nb2 O3.h2
    have e3 := o35 O3.nb h33
    have f3 := sb3 _ _ O2.nb h23
    refine ⟨ca5.same s, (od1 H' ⟨?_, ?_, ?_⟩), (od2 H' ⟨?_, ?_, ?_⟩)⟩
    · rw [s _ _ e1, O2.h1]
    · rw [s _ _ e2, O2.h2]
    · rw [s _ _ e3, h23, ← h33, f3]
    · rw [s _ _ e1, O3.h1]
    · rw [s _ _ e2, O3.h2]
    · rw [s _ _ e3, h33]
  by_cases c60 : 60 < n
  · refine ifT (decide_eq_true (by show (60 : Int) < (n : Nat); omega)) ⟨_, rfl, (by show 4 ≤ sizeLine; decide), fun d hd => ?_⟩
    have s8 := sx (same_upd (o := .tup [V.str "many", V.str "lines", V.int n, V.int 60]) hd)
    obtain ⟨g1, g2, g3⟩ := keep s8
    refine qA k x T hk hx G D Q p d v1 v2 _ _ _ _ _ _ _ _ _ _ _ hD kQ g1 g2 g3 (td _) (by rw [upd_same, if_pos c60]) (fun v hv => ?_)
    rw [if_pos c60] at hv
    simp only [List.mem_cons, List.mem_nil_iff, or_false] at hv
    rcases hv with rfl | rfl | rfl | rfl <;> rfl
  · refine ifF (decide_eq_false (by show ¬ (60 : Int) < (n : Nat); omega)) ⟨_, rfl, _, rfl, _, rfl, _, rfl, (by show 5 ≤ sizeLine; decide), fun d hd => ?_⟩
    have s8 := sx (same_upd (o := .tup [V.str "made", V.str k, V.str x, V.str (longT n), V.int n]) hd)
    obtain ⟨g1, g2, g3⟩ := keep s8
    refine qA k x T hk hx G D Q p d v1 v2 _ _ _ _ _ _ _ _ _ _ _ hD kQ g1 g2 g3 (td _) (by rw [upd_same, if_neg c60]; rfl) (fun v hv => ?_)
    rw [if_neg c60] at hv
    simp only [List.mem_cons, List.mem_nil_iff, or_false] at hv
    rcases hv with rfl | rfl | rfl | rfl | rfl <;> rfl
end
end K40

namespace K40
open PySem PySem.Spec PyProof.Rows L2 Fm PySem.RingX
theorem join_snoc : ∀ l : List Str, l ≠ [] → ∀ z : Str, Str.join "\n" (l ++ [z]) = Str.join "\n" l ++ ("\n" ++ z)
  | [x], _, z => by
    show x ++ "\n" ++ z = x ++ ("\n" ++ z)
    rw [Str.append_assoc]
  | x :: y :: r, _, z => by
    show x ++ "\n" ++ Str.join "\n" (y :: r ++ [z]) = x ++ "\n" ++ Str.join "\n" (y :: r) ++ ("\n" ++ z)
    rw [join_snoc (y :: r) (by simp) z]
    simp only [Str.append_assoc]
def quitT (T : Str) : Str := T ++ (if (!decide (T = "")) = true then ("\nquit" : Str) else "") ++ (if decide (T = "") = true then ("quit" : Str) else "")
theorem quit_len (T : Str) : (quitT T).length ≠ T.length := by
  unfold quitT
  rw [Str.length_append, Str.length_append]
  by_cases c : T = ""
  · rw [decide_eq_true c]
    have : ("quit" : Str).length = 4 := by decide +kernel
    simp only [if_true]
    omega
  · rw [decide_eq_false c]
    have : ("\nquit" : Str).length = 5 := by decide +kernel
    simp only [Bool.not_false, if_true]
    omega
theorem quit_good {i : Int} (h1 : 1 ≤ i) (h2 : i ≤ 60) {bs : List Nat} (d : Drawn bs) : GoodT (quitT (Txt.join "\n" (txtB i bs))) := by
  have sm := d.sums
  have e : quitT (Txt.join "\n" (txtB i bs)) = Txt.join "\n" (txtB i (bs ++ [5])) := by
    rw [txt_snoc]
    show quitT (Txt.join "\n" (txtB i bs)) = Txt.join "\n" (txtB i bs ++ (["quit"] : List Str))
    rw [TL.join_eq, TL.join_eq]
    by_cases c : txtB i bs = []
    · rw [c]; decide +kernel
    · have ne : Str.join "\n" (txtB i bs) ≠ "" := fun z => by
        have lj := lines_join (good_txt h1 h2 bs)
        rw [TL.join_eq, z] at lj
        exact c (lj.symm.trans (by decide +kernel))
      rw [join_snoc _ c]
      unfold quitT
      rw [decide_eq_false ne]
      simp only [Bool.not_false, if_true, Bool.false_eq_true, if_false]
      rw [Str.append_assoc]
      congr 1
  rw [e]
  refine (good_drawn h1 h2 (bs := bs ++ [5]) ?_ ?_).1
  · rw [txt_snoc, List.length_append]
    have := sm.2 i
    show _ + 1 ≤ 60
    omega
  · rw [List.map_append, List.sum_append]
    have : ([5].map ifB_).sum = 0 := by decide
    omega
end K40

namespace K40
open PySem PySem.Spec PyProof.Rows L2 Fm PySem.RingX
section
variable {P : Program} {w : World} {K : PySem.W.Frag} {mg : Str → Option Value} {base : Heap}
theorem eq_made {CC CK CY CL CM : Addr} {vk vw : V} {text : Str} {H : Hp} {E : XK} {p : Addr} {Qc : VK} (c : CodeC K CK CY CL CM vk vw text H E fun k x => ∀ (q : Addr) (H' : Hp), H q = none → Same H H' → CodeAt CC H' q k x text → rEqI K CC (spCEq CC) (.ref p) (.ref q) H' Qc) :
    ∀ x dx, H x = none → H dx = none → dx ≠ x → spCodeI K CC CK CY CL CM (.ref x :: ([vk, vw, V.str text] ++ [])) (upd (upd H dx (.own x)) x (.ins CC dx [])) (fun v H2 => v = .non ∧ rEqI K CC (spCEq CC) (.ref p) (.ref x) H2 Qc) E := code_made (Q := fun v H2 => rEqI K CC (spCEq CC) (.ref p) v H2 Qc) c
theorem ne_made {CC CK CY CL CM : Addr} {vk vw : V} {text : Str} {H : Hp} {E : XK} {p : Addr} {Qc : VK} (c : CodeC K CK CY CL CM vk vw text H E fun k x => ∀ (q : Addr) (H' : Hp), H q = none → Same H H' → CodeAt CC H' q k x text → rNeI K CC (spCEq CC) (.ref p) (.ref q) H' Qc) :
    ∀ x dx, H x = none → H dx = none → dx ≠ x → spCodeI K CC CK CY CL CM (.ref x :: ([vk, vw, V.str text] ++ [])) (upd (upd H dx (.own x)) x (.ins CC dx [])) (fun v H2 => v = .non ∧ rNeI K CC (spCEq CC) (.ref p) (.ref x) H2 Qc) E := code_made (Q := fun v H2 => rNeI K CC (spCEq CC) (.ref p) v H2 Qc) c
theorem kind_next {k : Str} (hk : kindM k = true) : ∃ (j : Nat) (k2 : Str), (kindsL.map V.str)[j]? = some (.str k) ∧ (∀ (m : Nat) (z : V), m < j → (kindsL.map V.str)[m]? = some z → eqV z (.str k) = false) ∧ atI (kindsL.map V.str) ((((j : Nat) : Int) + 1) % 5) = some (.str k2) ∧ kindM k2 = true ∧ k ≠ k2 := by
  have km := in_mem hk
  have no : ∀ (j : Nat) (k : Str), ((List.range j).all fun m => match (kindsL.map V.str)[m]? with | some z => !eqV z (.str k) | none => true) = true → ∀ (m : Nat) (z : V), m < j → (kindsL.map V.str)[m]? = some z → eqV z (.str k) = false := fun j k h m z hm hz => by
    have := List.all_eq_true.mp h m (List.mem_range.mpr hm)
    rw [hz] at this
    simpa using this
  simp only [kindsL, List.mem_cons, List.mem_nil_iff, or_false] at km
  rcases km with rfl | rfl | rfl | rfl | rfl
  · exact ⟨0, "put", rfl, no _ _ (by decide +kernel), rfl, by decide +kernel, by decide +kernel⟩
  · exact ⟨1, "set", rfl, no _ _ (by decide +kernel), rfl, by decide +kernel, by decide +kernel⟩
  · exact ⟨2, "take", rfl, no _ _ (by decide +kernel), rfl, by decide +kernel, by decide +kernel⟩
  · exact ⟨3, "drop", rfl, no _ _ (by decide +kernel), rfl, by decide +kernel, by decide +kernel⟩
  · exact ⟨4, "find", rfl, no _ _ (by decide +kernel), rfl, by decide +kernel, by decide +kernel⟩
theorem rEqI_of {K : PySem.W.Frag} {C : Addr} {sp : Sp} {x y : V} {H : Hp} {Q : VK} (h : ∃ a dx fs, x = .ref a ∧ H a = some (.ins C dx fs) ∧ Other K C y H ∧ sp [.ref a, y] H (fun v H' => ∃ b : Bool, v = .bl b ∧ Q (.bl b) H') E0) : rEqI K C sp x y H Q := ⟨h⟩
theorem rNeI_of {K : PySem.W.Frag} {C : Addr} {sp : Sp} {x y : V} {H : Hp} {Q : VK} (h : ∃ a dx fs, x = .ref a ∧ H a = some (.ins C dx fs) ∧ Other K C y H ∧ sp [.ref a, y] H (fun v H' => ∃ b : Bool, v = .bl b ∧ Q (.bl (!b)) H') E0) : rNeI K C sp x y H Q := ⟨h⟩
theorem law_code {A : Around} {outer : List Env} {s : Shared} {H : Hp} {E : XK} {cdv : Value} {f CC CK CY CL CM : Addr} {tB : TS} (hr : Room 13 (A.deeper (envOfC "law" (defScope s_law) s.heap.objs.size f cdv))) (TG : GB mg) (C : CodeK P w K mg base CC CK CY CL CM)
    (OG : OwnD P w K mg base CC "__getitem__" 1 ["self", "number"] (spCGet CC)) (OE : OwnD P w K mg base CC "__eq__" 1 ["self", "other"] (spCEq CC))
    (pB : PSs (cxOf CX0 P w K mg base nLaw "law" (defScope s_law) f cdv A outer s H E).nox ((defBody s_law).drop 11) tB)
    (qB : ∀ (k x T : Str), kindM k = true → wayM x = true → GoodT T → ∀ (D : Ends) (Q : VK) (p b c od a1 a2 a3 : Addr) (ns : List Int) (ct : Int) (H1 : Hp) (x0 x2 x3 x7 x10 : Option V), D.rt = Q → (∀ H', Q (.bl true) H') → CodeAt CC H1 p k x T → BagAt H1 b c ns ct → 0 ≤ ct → ct < 900000 → ns.length < 1000 → OddAt H1 b od a1 a2 a3 →
        tB D [x0, some (.ref b), x2, x3, some (.ref od), some (.str k), some (.str x), x7, some (.str T), some (.ref p), x10, none, none, none, none, none] H1) :
    ∃ t, PSs (cxOf CX0 P w K mg base nLaw "law" (defScope s_law) f cdv A outer s H E).nox ((defBody s_law).drop 6) t ∧
      ∀ (k x : Str) (i : Int) (bs : List Nat), kindM k = true → wayM x = true → 1 ≤ i → i ≤ 60 → Drawn bs → ∀ (D : Ends) (Q : VK) (b c od a1 a2 a3 kl ll : Addr) (ns : List Int) (ct : Int) (H1 : Hp) (x0 x3 : Option V), D.rt = Q → (∀ H', Q (.bl true) H') → BagAt H1 b c ns ct → 0 ≤ ct → ct < 900000 → ns.length < 1000 → OddAt H1 b od a1 a2 a3 → H1 kl = some (.lst (kindsL.map V.str)) → H1 ll = some (.lst ((txtB i bs).map V.str)) →
        t D [x0, some (.ref b), some (.ref kl), x3, some (.ref od), some (.str k), some (.str x), some (.ref ll), some (.str (Txt.join "\n" (txtB i bs))), none, none, none, none, none, none, none] H1 := by
  obtain ⟨TT, fI, dI, M, GI, bI⟩ := C
  have hr11 : Room 11 _ := hr.mono (by decide)
  have hr2 : Room 2 _ := hr.mono (by decide)
  have hr1 : Room 1 _ := hr.mono (by decide)
  have hu : (A.deeper (envOfC "law" (defScope s_law) s.heap.objs.size f cdv)).units + 65 < cLine := by have := hr.un; omega
  refine ⟨_, pss_cons (ps_set (i := 9) scLaw.nd rfl (Or.inl rfl) (pe_make (E := fun _ _ _ => False) M GI hr11 (by rfl) TT.t.gC bI .nil (passes_call takes0 (fun _ _ _ _ z => z)) (pa_cons (pv 5) (pa_cons (pv 6) (pa_cons (pv 8) pa_nil)))))
    (pss_cons (ps_for PassesOwn.never rfl (pi_range1 (by rfl) TG.range (pa_cons (pe_callB call_len_seq (by rfl) TG.len PySem.boot_len (pa_cons (pv 7) pa_nil)) pa_nil)) (pg_name (i := 10) scLaw.nd rfl (Or.inl rfl))
      (pss_one (ps_if (pt_cmpR op_ne (pe_itemI OG hr2 pass0 (pv 9) (pe_op op_add (pv 10) pe_int)) (pe_ix ix_list (pv 7) (pv 10) (fun _ _ => rfl)) (nomark _)) pss_no pss_nil)))
    (pss_cons (ps_if (PW.pt (pw_or (pt_cmpR (op_eqI OE TT.ss hr1 pass0) (pv 9) (pv 8) (nomark _)) (pw_or1 (pt_cmpR (op_neI OE TT.ne TT.mo TT.ss hr2 hu pass0) (pv 9) (pe_make (E := fun _ _ _ => False) M GI hr11 (by rfl) TT.t.gC bI .nil (passes_call takes0 (fun _ _ _ _ z => z)) (pa_cons (pv 5) (pa_cons (pv 6) (pa_cons (pe_join pe_str (pe_callTy call_list_of (by rfl) TG.lst (by decide +kernel) (pa_cons (pv 7) pa_nil))) pa_nil)))) (nomark _))))) pss_no pss_nil)
    (pss_cons (ps_if (pt_cmpR (op_eqI OE TT.ss hr1 pass0) (pv 9) (pe_make (E := fun _ _ _ => False) M GI hr11 (by rfl) TT.t.gC bI .nil (passes_call takes0 (fun _ _ _ _ z => z)) (pa_cons (pe_ix ix_list (pv 2) (pe_op op_mod (pe_op op_add (pe_bm PySem.F.plainAttrs_list PySem.F.slot_list_index PySem.F.type_list_index mt_index (pv 2) (pa_cons (pv 5) pa_nil)) pe_int) pe_int) (fun _ _ => rfl)) (pa_cons (pv 6) (pa_cons (pv 8) pa_nil)))) (nomark _)) pss_no pss_nil)
    (pss_cons (ps_if (pt_cmpR (op_eqI OE TT.ss hr1 pass0) (pv 9) (pe_make (E := fun _ _ _ => False) M GI hr11 (by rfl) TT.t.gC bI .nil (passes_call takes0 (fun _ _ _ _ z => z)) (pa_cons (pv 5) (pa_cons (pv 6) (pa_cons (pe_op op_add_str (pe_op op_add_str (pv 8) (pe_op op_mulS pe_str (pe_callTy call_int1 (by rfl) TG.int (by decide +kernel) (pa_cons (pe_cmpR op_ne (pv 8) pe_str (nomark _)) pa_nil)))) (pe_op op_mulS pe_str (pe_callTy call_int1 (by rfl) TG.int (by decide +kernel) (pa_cons (pe_cmpR op_eq (pv 8) pe_str (nomark _)) pa_nil)))) pa_nil)))) (nomark _)) pss_no pss_nil)
    pB)))), ?_⟩
  intro k x i bs hk hx i1 i2 dr D Q b c od a1 a2 a3 kl ll ns ct H1 x0 x3 hD kQ B c0 c1 hns O hkl hll
  obtain ⟨G, lj⟩ := good_drawn i1 i2 (bs := bs) (by have := dr.sums.2 i; omega) dr.sums.1
  have tl := dr.sums.2 i
  have sumL : ((txtB i bs).map (·.length)).sum + (txtB i bs).length * ("\n" : Str).length ≤ 16777216 := by
    have n1 : ("\n" : Str).length = 1 := by decide +kernel
    have : ∀ l : List Str, (∀ t ∈ l, t.length ≤ 50) → (l.map (·.length)).sum ≤ 50 * l.length := by
      intro l
      induction l with
      | nil => intro _; exact Nat.le_refl _
      | cons a r ih =>
        intro h
        have h1 := h a List.mem_cons_self
        have h2 := ih fun t ht => h t (List.mem_cons_of_mem _ ht)
        rw [List.map_cons, List.sum_cons, List.length_cons]
        omega
    have := this (txtB i bs) fun t ht => (good_out (good_txt i1 i2 bs t ht)).2.1
    rw [n1]
    omega
  generalize hT : Txt.join "\n" (txtB i bs) = T at *
  have qg : GoodT (quitT T) := by rw [← hT]; exact quit_good i1 i2 dr
  refine ⟨_, rfl, _, rfl, _, rfl, ?_⟩
  refine code_made (CC := CC) (Q := fun v H2 => gName 9 v _ H2 _) (G.code hk hx fun p H2 hp s2 cp => ?_)
  obtain ⟨dp, tp1, tp2, g1, g2⟩ := id cp
  have hll2 := s2 _ _ hll
  have hkl2 := s2 _ _ hkl
  refine ⟨_, rfl, ll, _, rfl, .inl (SqL.of hll2), _, rfl, by omega, (by rw [List.length_map]; omega), for_range (lo := 0) (n := ((txtB i bs).map V.str).length) (fun j σ H' => ∃ x10, σ = [x0, some (.ref b), some (.ref kl), x3, some (.ref od), some (.str k), some (.str x), some (.ref ll), some (.str T), some (.ref p), x10, none, none, none, none, none] ∧ H' = H2) ⟨_, rfl, rfl⟩ ?_ ?_⟩
  · rintro j σ H' hj ⟨x10, rfl, rfl⟩
    rw [List.length_map] at hj
    obtain ⟨t, ht⟩ : ∃ t, (txtB i bs)[j]? = some t := ⟨_, List.getElem?_eq_getElem hj⟩
    have ej : (0 : Int) + (j : Nat) + 1 = ((j + 1 : Nat) : Int) := by omega
    refine ⟨_, rfl, _, rfl, _, _, rfl, rfl, p, _, _, rfl, g1, p, k, x, T, j, t, congrArg (fun z => [V.ref p, V.int z]) ej, cp, by rw [lj]; exact ht, ?_⟩
    refine ⟨_, rfl, _, rfl, ll, _, _, .str t, rfl, rfl, SqL.of hll2, (by rw [show (0 : Int) + (j : Nat) = (j : Nat) by omega]; exact atI_nat (by rw [List.getElem?_map, ht]; rfl)), rfl, _, rfl, ?_⟩
    rw [show (!decide (V.str t = V.str t)) = false by rw [decide_eq_true rfl]; rfl]
    exact iteF ⟨_, rfl, rfl⟩
  · rintro σ H' ⟨x10, rfl, rfl⟩
    refine ⟨_, rfl, _, rfl, ?_⟩
    refine rEqI_of ⟨p, _, _, rfl, g1, .inr ⟨T, rfl⟩, p, k, x, T, .str T, rfl, cp, .inr ⟨T, rfl, _, rfl, _, rfl, iteF ?_⟩⟩
    refine ⟨_, rfl, _, rfl, _, rfl, ⟨_, rfl⟩, _, rfl, ll, _, rfl, .inl (SqL.of hll2), fun l2 hl2 => ⟨"\n", l2, txtB i bs, rfl, rfl, .inl (SqL.of upd_same), sumL, ?_⟩⟩
    rw [hT]
    have s3 := same_upd (o := .lst ((txtB i bs).map V.str)) hl2
    refine ne_made (CC := CC) (G.code hk hx fun q4 H4 hq4 s4 c4 => ?_)
    have s34 := s3.trans s4
    obtain ⟨d4, u4, w4, i1', i2'⟩ := id c4
    refine rNeI_of ⟨p, _, _, rfl, s34 _ _ g1, .inl ⟨q4, _, _, rfl, i1'⟩, p, k, x, T, .ref q4, rfl, cp.same s34, .inl ⟨q4, k, x, T, rfl, c4, _, rfl, _, rfl, ?_⟩⟩
    rw [decide_eq_true (⟨rfl, rfl, rfl⟩ : k = k ∧ x = x ∧ T = T)]
    refine iteF ?_
    obtain ⟨j, k2, k1, kno, kat, km2, kne⟩ := kind_next hk
    refine ⟨_, rfl, _, rfl, _, rfl, .inl ⟨rfl, _, SqL.of (s34 _ _ hkl2)⟩, _, rfl, kl, _, .str k, j, _, rfl, rfl, SqL.of (s34 _ _ hkl2), rfl, rfl, k1, (by show (k == k) = true; exact beq_self_eq_true _), kno, ?_⟩
    refine ⟨_, _, rfl, rfl, _, _, rfl, rfl, (by show (0 : Int) < 5; decide), kl, _, _, .str k2, rfl, rfl, SqL.of (s34 _ _ hkl2), kat, _, rfl, _, rfl, ?_⟩
    refine eq_made (CC := CC) (G.code km2 hx fun q5 H5 hq5 s5 c5 => ?_)
    obtain ⟨d5, u5, w5, j1, j2⟩ := id c5
    have s35 := s34.trans s5
    refine rEqI_of ⟨p, _, _, rfl, s35 _ _ g1, .inl ⟨q5, _, _, rfl, j1⟩, p, k, x, T, .ref q5, rfl, cp.same s35, .inl ⟨q5, k2, x, T, rfl, c5, _, rfl, _, rfl, ?_⟩⟩
    rw [decide_eq_false (fun h : k = k2 ∧ x = x ∧ T = T => kne h.1)]
    refine iteF ?_
    have dS : ∀ a b : Str, decide (V.str a = V.str b) = decide (a = b) := fun a b => by
      by_cases z : a = b
      · rw [decide_eq_true z, decide_eq_true (congrArg V.str z)]
      · rw [decide_eq_false z, decide_eq_false fun w => z (V.str.inj w)]
    have gl : T.length ≤ 54000 := G.l1
    refine ⟨_, rfl, _, rfl, _, rfl, _, rfl, _, rfl, rfl, .inr ⟨_, rfl, "\nquit", (!decide (V.str T = V.str "")), rfl, rfl, T, _, rfl, rfl, ?_, _, rfl, rfl, .inr ⟨_, rfl, "quit", (decide (V.str T = V.str "")), rfl, rfl, _, _, rfl, rfl, ?_, ?_⟩⟩⟩
    · have n1 : ("\nquit" : Str).length = 5 := by decide +kernel
      have n0 : ("" : Str).length = 0 := by decide +kernel
      rw [sizeLine_eq]
      split <;> omega
    · have n1 : ("\nquit" : Str).length = 5 := by decide +kernel
      have n2 : ("quit" : Str).length = 4 := by decide +kernel
      have n0 : ("" : Str).length = 0 := by decide +kernel
      rw [sizeLine_eq, Str.length_append]
      split <;> split <;> omega
    · rw [dS]
      refine eq_made (CC := CC) (text := quitT T) (qg.code hk hx fun q6 H6 hq6 s6 c6 => ?_)
      obtain ⟨d6, u6, w6, m1, m2⟩ := id c6
      have s36 := s35.trans s6
      refine rEqI_of ⟨p, _, _, rfl, s36 _ _ g1, .inl ⟨q6, _, _, rfl, m1⟩, p, k, x, T, .ref q6, rfl, cp.same s36, .inl ⟨q6, k, x, quitT T, rfl, c6, _, rfl, _, rfl, ?_⟩⟩
      rw [decide_eq_false (fun h : k = k ∧ x = x ∧ T = quitT T => quit_len T (congrArg Str.length h.2.2).symm)]
      refine iteF ?_
      have sA := s2.trans s36
      exact qB k x T hk hx G D Q p b c od a1 a2 a3 ns ct _ _ _ _ _ _ hD kQ (cp.same s36) (B.keep sA) c0 c1 hns (O.same sA)
end
end K40

namespace K40
open PySem PySem.Spec PyProof.Rows L2 Fm PySem.RingX
section
variable {P : Program} {w : World} {K : PySem.W.Frag} {mg : Str → Option Value} {base : Heap}
def spLawK (K : PySem.W.Frag) : Sp := fun vs H Q _ => ∃ (a : Addr) (ns : List Int), vs = [.ref a] ∧ SqL K H a (ns.map V.int) ∧ ns.length ≤ 63 ∧ ∀ H', Q (.bl true) H'
theorem sum_txt {i : Int} (i1 : 1 ≤ i) (i2 : i ≤ 60) {bs : List Nat} (dr : Drawn bs) : ((txtB i bs).map (·.length)).sum + (txtB i bs).length * ("\n" : Str).length ≤ 16777216 := by
  have tl := dr.sums.2 i
  have n1 : ("\n" : Str).length = 1 := by decide +kernel
  have : ∀ l : List Str, (∀ t ∈ l, t.length ≤ 50) → (l.map (·.length)).sum ≤ 50 * l.length := by
    intro l
    induction l with
    | nil => intro _; exact Nat.le_refl _
    | cons a r ih =>
      intro h
      have h1 := h a List.mem_cons_self
      have h2 := ih fun t ht => h t (List.mem_cons_of_mem _ ht)
      rw [List.map_cons, List.sum_cons, List.length_cons]
      omega
  have := this (txtB i bs) fun t ht => (good_out (good_txt i1 i2 bs t ht)).2.1
  rw [n1]
  omega
theorem ok_law {f fB fL fD fT fO fR fY CC CK CY CL CM : Addr} {fd dB dL dD dT dO dR dY : FuncData} (F : Fun K "law" "law" s_law f fd) (TG : GB mg) (C : CodeK P w K mg base CC CK CY CL CM)
    (ON : OwnD P w K mg base CC "__len__" 1 ["self"] (spCLen CC)) (OG : OwnD P w K mg base CC "__getitem__" 1 ["self", "number"] (spCGet CC)) (OE : OwnD P w K mg base CC "__eq__" 1 ["self", "other"] (spCEq CC))
    (GBg : FnOk P w K mg base CX0 1 fB dB ["script"] (spBag K)) (gB : mg "_law_bag" = some (.ref fB)) (kB : PySem.W.keepIn K (.ref fB) = true) (bB : L2.Binds K dB ["script"] [])
    (GL : FnOk P w K mg base CX0 2 fL dL ["bag"] spLL) (gL : mg "_law_lines" = some (.ref fL)) (kL : PySem.W.keepIn K (.ref fL) = true) (bL : L2.Binds K dL ["bag"] [])
    (GD : FnOk P w K mg base CX0 1 fD dD ["bag", "limit"] spDraw) (gD : mg "_law_draw" = some (.ref fD)) (kD : PySem.W.keepIn K (.ref fD) = true) (bD : L2.Binds K dD ["bag", "limit"] [])
    (GT : FnOk P w K mg base CX0 12 fT dT ["kind", "way", "text"] (spTold K)) (gT : mg "_law_told" = some (.ref fT)) (kT : PySem.W.keepIn K (.ref fT) = true) (bT : L2.Binds K dT ["kind", "way", "text"] [])
    (GO : FnOk P w K mg base CX0 13 fO dO ["kind", "way"] (spKW K)) (gO : mg "_law_order_right" = some (.ref fO)) (kO : PySem.W.keepIn K (.ref fO) = true) (bO : L2.Binds K dO ["kind", "way"] [])
    (GR : FnOk P w K mg base CX0 13 fR dR ["kind", "way"] (spKW K)) (gR : mg "_law_ifs_right" = some (.ref fR)) (kR : PySem.W.keepIn K (.ref fR) = true) (bR : L2.Binds K dR ["kind", "way"] [])
    (GY : FnOk P w K mg base CX0 13 fY dY ["code", "kind", "text"] (spWR CC)) (gY : mg "_law_ways_right" = some (.ref fY)) (kY : PySem.W.keepIn K (.ref fY) = true) (bY : L2.Binds K dY ["code", "kind", "text"] []) :
    FnOk P w K mg base CX0 14 f fd ["script"] (spLawK K) := by
  refine F.ok scLaw (fun vs H Q E h => ?_) (fun cdv A outer s H vs Q E hr h => ?_)
  · obtain ⟨a, ns, rfl, _⟩ := h
    rfl
  · obtain ⟨a, ns, rfl, sa, hns, kQ⟩ := h
    have hr12 : Room 12 _ := hr.mono (by decide)
    have hr2 : Room 2 _ := hr.mono (by decide)
    have hr1 : Room 1 _ := hr.mono (by decide)
    have hu : (A.deeper (envOfC "law" (defScope s_law) s.heap.objs.size f cdv)).units < cLine := by have := hr.un; omega
    obtain ⟨tA, pA, qA⟩ := law_tail (outer := outer) (H := H) (E := E) hr TG C ON GT gT kT bT GO gO kO bO GR gR kR bR GY gY kY bY
    obtain ⟨tB, pB, qB⟩ := law_odd (CC := CC) hr TG GD gD kD bD pA qA
    obtain ⟨tC, pC, qC⟩ := law_code hr TG C OG OE pB qB
    refine ⟨_, pss_cons (ps_set (i := 1) scLaw.nd rfl (Or.inl rfl) (pe_call GBg hr1 (by rfl) gB kB bB .nil pass0 (pa_cons (pv 0) pa_nil)))
      (pss_cons (ps_par (i := 2) (j := 3) rfl scLaw.nd rfl rfl (by decide) rfl rfl (pa_cons (pe_lst (pa_cons pe_str (pa_cons pe_str (pa_cons pe_str (pa_cons pe_str (pa_cons pe_str pa_nil)))))) (pa_cons (pe_lst (pa_cons pe_str (pa_cons pe_str (pa_cons pe_str pa_nil)))) pa_nil)) (by rfl))
      (pss_cons (ps_set (i := 4) scLaw.nd rfl (Or.inl rfl) (pe_lst (pa_cons pe_str (pa_cons pe_str (pa_cons pe_str (pa_cons pe_int (pa_cons pe_non (pa_cons (pe_lst (pa_cons pe_str pa_nil)) (pa_cons (pe_tup (pa_cons pe_str pa_nil)) (pa_cons (pe_disp (pps_cons pe_str pe_int pps_nil) (by rfl) (by rfl) (fun z => by cases z) (by decide)) (pa_cons pe_bl pa_nil)))))))))))
      (pss_cons (ps_par3 (i := 5) (j := 6) (l := 7) rfl scLaw.nd rfl rfl rfl (by decide) (by decide) (by decide) rfl rfl rfl (pa_cons (pe_ix ix_list (pv 2) (pe_call GD hr1 (by rfl) gD kD bD .nil pass0 (pa_cons (pv 1) (pa_cons pe_int pa_nil))) (fun _ _ => rfl)) (pa_cons (pe_ix ix_list (pv 3) (pe_call GD hr1 (by rfl) gD kD bD .nil pass0 (pa_cons (pv 1) (pa_cons pe_int pa_nil))) (fun _ _ => rfl)) (pa_cons (pe_call GL hr2 (by rfl) gL kL bL .nil pass0 (pa_cons (pv 1) pa_nil)) pa_nil))) (by rfl))
      (pss_cons (ps_set (i := 8) scLaw.nd rfl (Or.inl rfl) (pe_join pe_str (pv 7)))
      (pss_cons (ps_if (pt_cmpR (op_neS hu) (pe_call GT hr12 (by rfl) gT kT bT .nil pass0 (pa_cons (pv 5) (pa_cons (pv 6) (pa_cons (pv 8) pa_nil)))) (pe_tup (pa_cons pe_str (pa_cons (pv 5) (pa_cons (pv 6) (pa_cons (pv 8) (pa_cons (pe_callB call_len_seq (by rfl) TG.len PySem.boot_len (pa_cons (pv 7) pa_nil)) pa_nil)))))) (nomark _)) pss_no pss_nil)
      pC))))), ?_⟩
    refine ⟨_, rfl, a, ns, rfl, sa, by omega, fun b c H1 hb B1 s1 => ?_⟩
    refine ⟨(by show 5 ≤ sizeLine; decide), fun kl h2 => ⟨(by show 3 ≤ sizeLine; decide), fun wl h3 => ?_⟩⟩
    have e2 := @same_upd _ kl (.lst (kindsL.map V.str)) h2
    have e3 := @same_upd _ wl (.lst (waysL.map V.str)) h3
    refine ⟨_, _, rfl, (by show 1 ≤ sizeLine; decide), fun a1 h4 => ⟨(by show 1 ≤ sizeLine; decide), fun a2 h5 => ?_⟩⟩
    have e4 := @same_upd _ a1 (.lst [V.str "put"]) h4
    have e5 := @same_upd _ a2 (.tup [V.str "put"]) h5
    have s5 := (s1.trans (e2.trans e3)).trans (e4.trans e5)
    have kkl := (e3.trans (e4.trans e5)) kl _ upd_same
    have kwl := (e4.trans e5) wl _ upd_same
    have ka1 := e5 a1 _ upd_same
    have B5 := B1.keep ((e2.trans e3).trans (e4.trans e5))
    have ka2 : upd (upd (upd (upd H1 kl (.lst (kindsL.map V.str))) wl (.lst (waysL.map V.str))) a1 (.lst [V.str "put"])) a2 (.tup [V.str "put"]) a2 = some (.tup [V.str "put"]) := upd_same
    intro a3 h6
    refine ⟨upd_same, [(.inr "put", .int 1)], rfl, (by show 1 ≤ 15; decide), ?_⟩
    rw [upd_upd]
    obtain ⟨kb5, hb5⟩ := B5.dk
    have n3b : a3 ≠ b := (ne_of_none hb5 h6).symm
    have e6 := @same_upd _ a3 (.dK (mergeK [] [(.inr "put", V.int 1)])) h6
    refine ⟨(by show 9 ≤ sizeLine; decide), fun od h7 => ?_⟩
    have e7 := @same_upd _ od (.lst [.str "Find", .str "", .str "get", .int 5, .non, .ref a1, .ref a2, .ref a3, .bl true]) h7
    have e67 := e6.trans e7
    have B7 := B5.keep e67
    have O7 : OddAt _ b od a1 a2 a3 := ⟨@upd_same _ od (.lst [.str "Find", .str "", .str "get", .int 5, .non, .ref a1, .ref a2, .ref a3, .bl true]), e67 _ _ ka1, e67 _ _ ka2, ⟨_, e7 a3 _ upd_same⟩, n3b⟩
    obtain ⟨kb7, hb7⟩ := B7.dk
    refine ⟨_, rfl, _, rfl, b, c, 5, ns, 0, rfl, B7, by omega, by omega, by decide, by decide, by omega, fun r H8 r0 r1 B8 sb8 => ?_⟩
    have O8 := O7.but hb7 sb8
    have k8 := sb8 _ _ (ne_of (e67 _ _ kkl) hb7 (fun z => nomatch z)) (e67 _ _ kkl)
    have w8 := sb8 _ _ (ne_of (e67 _ _ kwl) hb7 (fun z => nomatch z)) (e67 _ _ kwl)
    obtain ⟨kb8, hb8⟩ := B8.dk
    obtain ⟨k, hkm, hka⟩ : ∃ k : Str, kindM k = true ∧ atI (kindsL.map V.str) r = some (.str k) := by
      obtain ⟨n, rfl⟩ : ∃ n : Nat, r = n := ⟨r.toNat, by omega⟩
      have n5 : n < 5 := by omega
      match n, n5 with
      | 0, _ => exact ⟨"find", by decide +kernel, rfl⟩
      | 1, _ => exact ⟨"put", by decide +kernel, rfl⟩
      | 2, _ => exact ⟨"set", by decide +kernel, rfl⟩
      | 3, _ => exact ⟨"take", by decide +kernel, rfl⟩
      | 4, _ => exact ⟨"drop", by decide +kernel, rfl⟩
    refine ⟨kl, _, _, .str k, rfl, rfl, SqL.of k8, hka, ?_⟩
    refine ⟨_, rfl, _, rfl, b, c, 3, ns, 0 + 1, rfl, B8, by omega, by omega, by decide, by decide, by omega, fun r' H9 r0' r1' B9 sb9 => ?_⟩
    have O9 := O8.but hb8 sb9
    have k9 := sb9 _ _ (ne_of k8 hb8 (fun z => nomatch z)) k8
    have w9 := sb9 _ _ (ne_of w8 hb8 (fun z => nomatch z)) w8
    obtain ⟨kb9, hb9⟩ := B9.dk
    obtain ⟨x, hxm, hxa⟩ : ∃ x : Str, wayM x = true ∧ atI (waysL.map V.str) r' = some (.str x) := by
      obtain ⟨n, rfl⟩ : ∃ n : Nat, r' = n := ⟨r'.toNat, by omega⟩
      have n3 : n < 3 := by omega
      match n, n3 with
      | 0, _ => exact ⟨"plain", by decide +kernel, rfl⟩
      | 1, _ => exact ⟨"stones", by decide +kernel, rfl⟩
      | 2, _ => exact ⟨"sorted", by decide +kernel, rfl⟩
    refine ⟨wl, _, _, .str x, rfl, rfl, SqL.of w9, hxa, ?_⟩
    refine ⟨_, rfl, b, c, ns, 0 + 1 + 1, rfl, B9, by omega, by omega, by omega, fun i bs ll H10 ct' i1 i2 dr c0 c1 B10 sb10 ll0 hll => ?_⟩
    have O10 := O9.but hb9 sb10
    have k10 := sb10 _ _ (ne_of k9 hb9 (fun z => nomatch z)) k9
    obtain ⟨G, lj⟩ := good_drawn i1 i2 (bs := bs) (by have := dr.sums.2 i; omega) dr.sums.1
    refine ⟨_, _, _, rfl, ⟨_, rfl⟩, _, rfl, "\n", ll, txtB i bs, rfl, rfl, .inl (SqL.of hll), sum_txt i1 i2 dr, ?_⟩
    refine ⟨_, rfl, _, rfl, _, rfl, .str k, .str x, _, _, rfl, G.told hkm hxm, fun q1 H11 hq1 s11 e11 => ⟨_, rfl, _, rfl, _, rfl, _, rfl, ll, _, rfl, .inl (SqL.of (s11 _ _ hll)), (by show 5 ≤ sizeLine; decide), fun d hd => ?_⟩⟩
    have eN : (((txtB i bs).map V.str).length : Int) = ((linesOfM (Txt.join "\n" (txtB i bs))).length : Nat) := by rw [List.length_map, lj]
    rw [eN]
    have s12 := same_upd (o := .tup [V.str "made", V.str k, V.str x, V.str (Txt.join "\n" (txtB i bs)), V.int ((linesOfM (Txt.join "\n" (txtB i bs))).length : Nat)]) hd
    refine ⟨q1, d, _, rfl, rfl, SqT.of (s12 _ _ e11), SqT.of upd_same, (by intro v hv; left; simp only [List.mem_cons, List.mem_nil_iff, or_false] at hv; rcases hv with rfl | rfl | rfl | rfl | rfl <;> rfl), _, rfl, iteF ?_⟩
    have sZ := s11.trans s12
    exact qC k x i bs hkm hxm i1 i2 dr _ Q b c od a1 a2 a3 kl ll ns ct' _ _ _ rfl kQ (B10.keep sZ) c0 (by omega) (by omega) (O10.same sZ) (sZ _ _ k10) (sZ _ _ hll)
end
end K40

/-! ## The end: what the top has written -/
namespace K40
open PySem PySem.Spec PyProof.Rows L2 Fm PySem.RingX
/-- texts one by one -/
def valsB : List Value → List Str → Bool
  | [], [] => true
  | .str x _ :: r, y :: s => decide (x = y) && valsB r s
  | _, _ => false
theorem valsB_ok : ∀ {l : List Value} {ws : List Str}, valsB l ws = true → Vals (ws.map V.str) l
  | [], [], _ => .nil
  | [], _ :: _, h => by cases h
  | .str x t :: r, y :: s, h => by
    obtain ⟨h1, h2⟩ := Bool.and_eq_true_iff.mp (show (decide (x = y) && valsB r s) = true from h)
    cases of_decide_eq_true h1
    exact .cons ⟨t, rfl⟩ (valsB_ok h2)
  | .str x t :: r, [], h => by cases h
/-- a written tuple of texts -/
def strTupB (K : PySem.W.Frag) (a : Addr) (ws : List Str) : Bool := match K.lookup a with
  | some o => decide (o.cls = .type "tuple") && (match o.data with | .seq its _ => decide (its.size ≤ sizeLine) && valsB its.toList ws | _ => false)
  | none => false
theorem strTupB_ok {K : PySem.W.Frag} {a : Addr} {ws : List Str} (h : strTupB K a ws = true) : ∀ H : Hp, SqT K H a (ws.map V.str) := by
  unfold strTupB at h
  split at h
  · rename_i o ho
    obtain ⟨h1, h2⟩ := Bool.and_eq_true_iff.mp h
    split at h2
    · rename_i its n hd
      obtain ⟨h3, h4⟩ := Bool.and_eq_true_iff.mp h2
      exact fun H => .inr ⟨o, its, n, ho, of_decide_eq_true h1, hd, of_decide_eq_true h3, valsB_ok h4⟩
    · cases h2
  · cases h
theorem dpAll_strs {K : PySem.W.Frag} {H : Hp} : ∀ ws : List Str, DpAll K H (ws.map V.str) (ws.map PyData.str)
  | [] => .nil
  | _ :: r => .cons (.str _) (dpAll_strs r)
theorem strTupB_dp {K : PySem.W.Frag} {a : Addr} {ws : List Str} (h : strTupB K a ws = true) (H : Hp) : Dp K H (.ref a) (strsD ws) := .tup (strTupB_ok h H) (dpAll_strs ws)
/-- a written tuple of pairs of texts -/
def pairsB (K : PySem.W.Frag) : List Value → List (Str × Str) → Bool
  | [], [] => true
  | .ref a :: r, p :: s => strTupB K a [p.1, p.2] && pairsB K r s
  | _, _ => false
theorem pairsB_ok {K : PySem.W.Frag} : ∀ {l : List Value} {fs : List (Str × Str)}, pairsB K l fs = true → ∃ vs, Vals vs l ∧ ∀ H : Hp, DpAll K H vs (fs.map fun p => PyData.tuple [.str p.1, .str p.2])
  | [], [], _ => ⟨[], .nil, fun _ => .nil⟩
  | [], _ :: _, h => by cases h
  | .ref a :: r, p :: s, h => by
    obtain ⟨h1, h2⟩ := Bool.and_eq_true_iff.mp (show (strTupB K a [p.1, p.2] && pairsB K r s) = true from h)
    obtain ⟨vs, v1, v2⟩ := pairsB_ok h2
    exact ⟨.ref a :: vs, .cons rfl v1, fun H => .cons (strTupB_dp h1 H) (v2 H)⟩
  | .ref a :: r, [], h => by cases h
def formsB (K : PySem.W.Frag) (a : Addr) (fs : List (Str × Str)) : Bool := match K.lookup a with
  | some o => decide (o.cls = .type "tuple") && (match o.data with | .seq its _ => decide (its.size ≤ sizeLine) && pairsB K its.toList fs | _ => false)
  | none => false
theorem formsB_ok {K : PySem.W.Frag} {a : Addr} {fs : List (Str × Str)} (h : formsB K a fs = true) : ∀ H : Hp, Dp K H (.ref a) (formsD fs) := by
  unfold formsB at h
  split at h
  · rename_i o ho
    obtain ⟨h1, h2⟩ := Bool.and_eq_true_iff.mp h
    split at h2
    · rename_i its n hd
      obtain ⟨h3, h4⟩ := Bool.and_eq_true_iff.mp h2
      obtain ⟨vs, v1, v2⟩ := pairsB_ok h4
      exact fun H => .tup (.inr ⟨o, its, n, ho, of_decide_eq_true h1, hd, of_decide_eq_true h3, v1⟩) (v2 H)
    · cases h2
  · cases h
/-- the dict of places -/
def placesB (K : PySem.W.Frag) : List DictEntry → List (Str × List Str) → Bool
  | [], [] => true
  | e :: r, p :: s => (match e.key, e.val with | .str x _, .ref b => decide (x = p.1) && strTupB K b p.2 | _, _ => false) && placesB K r s
  | _, _ => false
theorem placesB_ok {K : PySem.W.Frag} (m : Str) : ∀ {l : List DictEntry} {ps : List (Str × List Str)}, placesB K l ps = true → l.any (·.refKey) = false ∧
    ∃ r, RelO r ((l.find? (·.key.isStr m)).map (·.val)) ∧ r.isSome = (ps.lookup m).isSome ∧ ∀ ws, ps.lookup m = some ws → ∃ b, r = some (.ref b) ∧ ∀ H, SqT K H b (ws.map V.str)
  | [], [], _ => ⟨rfl, none, trivial, rfl, fun _ h => by cases h⟩
  | [], _ :: _, h => by cases h
  | _ :: _, [], h => by cases h
  | e :: l, p :: ps, h => by
    obtain ⟨h1, h2⟩ := Bool.and_eq_true_iff.mp (show ((match e.key, e.val with | .str x _, .ref b => decide (x = p.1) && strTupB K b p.2 | _, _ => false) && placesB K l ps) = true from h)
    obtain ⟨i1, r, i2, i3, i4⟩ := placesB_ok m h2
    obtain ⟨q1, q2⟩ := p
    obtain ⟨hh, key, val⟩ := e
    dsimp only at h1
    split at h1
    · rename_i x t b
      obtain ⟨h3, h4⟩ := Bool.and_eq_true_iff.mp h1
      have h3 : x = q1 := of_decide_eq_true h3
      subst h3
      refine ⟨by rw [List.any_cons, i1]; rfl, ?_⟩
      by_cases c : x = m
      · subst c
        refine ⟨some (.ref b), ?_, ?_, fun ws hw => ?_⟩
        · rw [List.find?_cons, show ((⟨hh, .str x t, .ref b⟩ : DictEntry).key.isStr x) = true from beq_self_eq_true _]
          rfl
        · rw [List.lookup_cons, beq_self_eq_true]; rfl
        · rw [List.lookup_cons, beq_self_eq_true] at hw
          cases hw
          exact ⟨b, rfl, strTupB_ok h4⟩
      · have c1 : (x == m) = false := beq_eq_false_iff_ne.mpr c
        have c2 : (m == x) = false := beq_eq_false_iff_ne.mpr fun z => c z.symm
        refine ⟨r, ?_, ?_, fun ws hw => ?_⟩
        · rw [List.find?_cons, show ((⟨hh, .str x t, .ref b⟩ : DictEntry).key.isStr m) = false from c1]
          exact i2
        · rw [List.lookup_cons, c2]; exact i3
        · rw [List.lookup_cons, c2] at hw
          exact i4 ws hw
    · cases h1
theorem places_mk {K : PySem.W.Frag} {w : World} {a : Addr} {es : Array DictEntry} {n : Nat} (hl : K.lookup a = some ⟨.type "dict", none, .dict es n, #[]⟩) (hk : PySem.W.KeysLit w.params es.toList) (hs : (a == sysModules) = false) (h : placesB K es.toList PL = true) (m : Str) :
    ∃ r, KHas K w a m r ∧ r.isSome = (placeM m).isSome ∧ ∀ ws, placeM m = some ws → ∃ b, r = some (.ref b) ∧ ∀ H, SqT K H b (ws.map V.str) := by
  obtain ⟨h1, r, h2, h3, h4⟩ := placesB_ok m h
  refine ⟨r, ⟨es, n, _, hl, hk, hs, ?_, h2⟩, h3, h4⟩
  unfold PySem.W.nsIn
  rw [hl]
  dsimp only
  cases e : es.toList.find? (·.key.isStr m) with
  | none =>
    dsimp only
    rw [if_neg (by rw [h1]; exact Bool.false_ne_true)]
    rfl
  | some en => rfl
theorem kl_nil {P : Params} : PySem.W.KeysLit P [] := trivial
theorem kl_cons {P : Params} {x : Str} {t : Tok} {v : Value} {r : List DictEntry} (h : PySem.W.KeysLit P r) : PySem.W.KeysLit P (⟨PyData.keyHash P x, .str x t, v⟩ :: r) := ⟨⟨x, t, rfl, rfl⟩, h⟩
/-- a class of the top that is plain -/
def clsB (K : PySem.W.Frag) (C : Addr) (fs : List Str) : Bool :=
  PySem.W.plainGet K C Str.empty && (PySem.W.hasDictIn K C && (PySem.W.plainOver K C && (decide (PySem.W.findIn K (.ref C) "__setattr__" = some (some (.builtin "object.__setattr__"))) && (PySem.W.makesIn K C && (PySem.W.keepIn K (.ref C) && fs.all fun f => decide (PySem.W.findIn K (.ref C) f = some none))))))
theorem clsB_ok {K : PySem.W.Frag} {mg : Str → Option Value} {C : Addr} {nm : Str} {fs : List Str} (h : clsB K C fs = true) (g : mg nm = some (.ref C)) : ClsT K mg C nm fs ∧ PySem.W.makesIn K C = true ∧ PySem.W.keepIn K (.ref C) = true := by
  unfold clsB at h
  simp only [Bool.and_eq_true, decide_eq_true_eq, List.all_eq_true] at h
  obtain ⟨h1, h2, h3, h4, h5, h6, h7⟩ := h
  exact ⟨⟨⟨h1, h2, h3, h4⟩, fun f hf => h7 f hf, g⟩, h5, h6⟩
def methB (K : PySem.W.Frag) (f : Addr) : Bool := PySem.W.isFn K (.ref f) && (PySem.W.keepIn K (.ref f) && PySem.W.fnIn K f)
theorem methB_ok {K : PySem.W.Frag} {f : Addr} (h : methB K f = true) : PySem.W.isFn K (.ref f) = true ∧ PySem.W.keepIn K (.ref f) = true ∧ PySem.W.fnIn K f = true := by
  unfold methB at h
  simp only [Bool.and_eq_true] at h
  exact h
/-- the class Code, for isinstance -/
def codeB (K : PySem.W.Frag) (CC : Addr) : Bool :=
  decide (PySem.W.findIn K (.ref CC) "__class__" = some (some (.builtin "object.__class__"))) && (decide (PySem.W.specialIn K (.builtin "object.__class__") "__get__" = some (some (.builtin "getset_descriptor.__get__"))) && (decide (PySem.W.takesIn K (.builtin "object.__class__") = some true) &&
    (decide (PySem.W.mroIn K CC (.type "object") = some true) && (decide (PySem.W.findIn K (.ref CC) "__ne__" = some (some (.builtin "object.__ne__"))) && (decide (PySem.W.kitOne K (.type "str") (.ref CC) = some false) && decide (PySem.W.subIn K (.type "str") (.ref CC) = some false))))))
theorem codeB_ok {K : PySem.W.Frag} {mg : Str → Option Value} {CC : Addr} (h : codeB K CC = true) (t : ClsT K mg CC "Code" codeNames) : CodeT K mg CC := by
  unfold codeB at h
  simp only [Bool.and_eq_true, decide_eq_true_eq] at h
  obtain ⟨h1, h2, h3, h4, h5, h6, h7⟩ := h
  exact ⟨t, h1, h2, h3, h4, h5, h6, h7⟩
/-- how the errors stand to one another -/
def relCB (K : PySem.W.Frag) (CK CY CL CM RE : Addr) : Bool :=
  ([CK, CY, CL, CM].all fun C => decide (PySem.W.exmOne K (.ref C) (.ref RE) = some true)) && (decide (PySem.W.kitOne K (.ref CY) (.ref CK) = some false) && (decide (PySem.W.kitOne K (.ref CM) (.ref CK) = some false) && (decide (PySem.W.kitOne K (.ref CM) (.ref CY) = some false) &&
    (decide (PySem.W.kitOne K (.ref CL) (.ref CK) = some false) && (decide (PySem.W.kitOne K (.ref CL) (.ref CY) = some false) && (decide (PySem.W.kitOne K (.ref CL) (.ref CM) = some false) && (decide (PySem.W.exmOne K (.ref CY) (.ref CY) = some true) && decide (PySem.W.takesIn K (.builtin "object.__class__") = some true))))))))
theorem kit_self {K : PySem.W.Frag} {C : Addr} : PySem.W.kitOne K (.ref C) (.ref C) = some true := by
  unfold PySem.W.kitOne
  rw [if_pos (beq_self_eq_true _)]
theorem relCB_ok {K : PySem.W.Frag} {mg : Str → Option Value} {CK CY CL CM CF RE : Addr} (h : relCB K CK CY CL CM RE = true) (gR : mg "RingError" = some (.ref RE)) (gF : mg "Refused" = some (.ref CF)) (xc : ∀ C ∈ [CK, CY, CL, CM], ExcC K C) : RelC K mg CK CY CL CM CF RE ∧ PySem.W.exmOne K (.ref CY) (.ref CY) = some true := by
  unfold relCB at h
  simp only [Bool.and_eq_true, decide_eq_true_eq, List.all_eq_true] at h
  obtain ⟨h1, h2, h3, h4, h5, h6, h7, h8, h9⟩ := h
  exact ⟨⟨gR, gF, h1, xc, kit_self, h2, kit_self, h3, h4, kit_self, h5, h6, h7, kit_self⟩, h8⟩
end K40

namespace K40
open PySem PySem.Spec PyProof.Rows L2 Fm PySem.RingX
theorem text0 : ExText s_BadKind_init ["kind"] := ⟨by rfl, by rfl, by rfl, by rfl, by rfl, by decide +kernel, by decide, fun _ _ _ _ _ _ _ _ _ _ us h => match us, h with | [_], _ => .of_eq rfl⟩
theorem text1 : ExText s_BadWay_init ["way"] := ⟨by rfl, by rfl, by rfl, by rfl, by rfl, by decide +kernel, by decide, fun _ _ _ _ _ _ _ _ _ _ us h => match us, h with | [_], _ => .of_eq rfl⟩
theorem text2 : ExText s_BadLine_init ["line"] := ⟨by rfl, by rfl, by rfl, by rfl, by rfl, by decide +kernel, by decide, fun _ _ _ _ _ _ _ _ _ _ us h => match us, h with | [_], _ => .of_eq rfl⟩
theorem text3 : ExText s_TooMany_init ["what", "many", "most"] := ⟨by rfl, by rfl, by rfl, by rfl, by rfl, by decide +kernel, by decide, fun _ _ _ _ _ _ _ _ _ _ us h => match us, h with | [_, _, _], _ => .of_eq rfl⟩
theorem all_mk {l : PySem.W.OpenLaw} {w : World} {K : PySem.W.Frag} {h : Heap} {mg : Str → Option Value} {fa : Addr} (X : K.In h) (G : h.Ns mainGlobals mg) (hfa : mg "law" = some (.ref fa))
    {CK fK cc0 cda0 N0 : Addr} {cn0 q0 qual0 file0 : Str} {bs0 : List Value} {sn0 : List Str} {sub0 : List Value} {ab0 : Bool} {col0 : Option Bool} {dd0 : Option Addr} {ka0 kb0 kc0 kd0 ke0 : Option Value} {oc0 kV0 doc0 pm0 ct0 cl0 ccl0 : Value} {od0 an0 cld0 cdd0 : Option Addr} {osl0 csl0 ccs0 : Array (Option Value)} {vs0 : Array Value} {tf0 : Tok} {R0 : Addr}
    {CY fY cc1 cda1 N1 : Addr} {cn1 q1 qual1 file1 : Str} {bs1 : List Value} {sn1 : List Str} {sub1 : List Value} {ab1 : Bool} {col1 : Option Bool} {dd1 : Option Addr} {ka1 kb1 kc1 kd1 ke1 : Option Value} {oc1 kV1 doc1 pm1 ct1 cl1 ccl1 : Value} {od1 an1 cld1 cdd1 : Option Addr} {osl1 csl1 ccs1 : Array (Option Value)} {vs1 : Array Value} {tf1 : Tok} {R1 : Addr}
    {CL fL cc2 cda2 N2 : Addr} {cn2 q2 qual2 file2 : Str} {bs2 : List Value} {sn2 : List Str} {sub2 : List Value} {ab2 : Bool} {col2 : Option Bool} {dd2 : Option Addr} {ka2 kb2 kc2 kd2 ke2 : Option Value} {oc2 kV2 doc2 pm2 ct2 cl2 ccl2 : Value} {od2 an2 cld2 cdd2 : Option Addr} {osl2 csl2 ccs2 : Array (Option Value)} {vs2 : Array Value} {tf2 : Tok} {R2 : Addr}
    {CM fM cc3 cda3 N3 : Addr} {cn3 q3 qual3 file3 : Str} {bs3 : List Value} {sn3 : List Str} {sub3 : List Value} {ab3 : Bool} {col3 : Option Bool} {dd3 : Option Addr} {ka3 kb3 kc3 kd3 ke3 : Option Value} {oc3 kV3 doc3 pm3 ct3 cl3 ccl3 : Value} {od3 an3 cld3 cdd3 : Option Addr} {osl3 csl3 ccs3 : Array (Option Value)} {vs3 : Array Value} {tf3 : Tok} {R3 : Addr}
    {CF RE C CW CC aP t0 t1 t2 t3 t4 t5 t6 t7 : Addr} {pes : Array DictEntry} {pn : Nat} {ti0 ti1 ti2 ti3 ti4 ti5 : Tok}
    {f0 : Addr} {foc0 fkV0 fdoc0 fpm0 fcd0 fct0 : Value} {fod0 fan0 : Option Addr} {fsl0 : Array (Option Value)}
    {f1 : Addr} {foc1 fkV1 fdoc1 fpm1 fcd1 fct1 : Value} {fod1 fan1 : Option Addr} {fsl1 : Array (Option Value)}
    {f2 : Addr} {foc2 fkV2 fdoc2 fpm2 fcd2 fct2 : Value} {fod2 fan2 : Option Addr} {fsl2 : Array (Option Value)}
    {f3 : Addr} {foc3 fkV3 fdoc3 fpm3 fcd3 fct3 : Value} {fod3 fan3 : Option Addr} {fsl3 : Array (Option Value)}
    {f4 : Addr} {foc4 fkV4 fdoc4 fpm4 fcd4 fct4 : Value} {fod4 fan4 : Option Addr} {fsl4 : Array (Option Value)}
    {f5 : Addr} {foc5 fkV5 fdoc5 fpm5 fcd5 fct5 : Value} {fod5 fan5 : Option Addr} {fsl5 : Array (Option Value)}
    {f6 : Addr} {foc6 fkV6 fdoc6 fpm6 fcd6 fct6 : Value} {fod6 fan6 : Option Addr} {fsl6 : Array (Option Value)}
    {f7 : Addr} {foc7 fkV7 fdoc7 fpm7 fcd7 fct7 : Value} {fod7 fan7 : Option Addr} {fsl7 : Array (Option Value)}
    {f8 : Addr} {foc8 fkV8 fdoc8 fpm8 fcd8 fct8 : Value} {fod8 fan8 : Option Addr} {fsl8 : Array (Option Value)}
    {f9 : Addr} {foc9 fkV9 fdoc9 fpm9 fcd9 fct9 : Value} {fod9 fan9 : Option Addr} {fsl9 : Array (Option Value)}
    {f10 : Addr} {foc10 fkV10 fdoc10 fpm10 fcd10 fct10 : Value} {fod10 fan10 : Option Addr} {fsl10 : Array (Option Value)}
    {f11 : Addr} {foc11 fkV11 fdoc11 fpm11 fcd11 fct11 : Value} {fod11 fan11 : Option Addr} {fsl11 : Array (Option Value)}
    {f12 : Addr} {foc12 fkV12 fdoc12 fpm12 fcd12 fct12 : Value} {fod12 fan12 : Option Addr} {fsl12 : Array (Option Value)}
    {f13 : Addr} {foc13 fkV13 fdoc13 fpm13 fcd13 fct13 : Value} {fod13 fan13 : Option Addr} {fsl13 : Array (Option Value)}
    {f14 : Addr} {foc14 fkV14 fdoc14 fpm14 fcd14 fct14 : Value} {fod14 fan14 : Option Addr} {fsl14 : Array (Option Value)}
    {f15 : Addr} {foc15 fkV15 fdoc15 fpm15 fcd15 fct15 : Value} {fod15 fan15 : Option Addr} {fsl15 : Array (Option Value)}
    {f16 : Addr} {foc16 fkV16 fdoc16 fpm16 fcd16 fct16 : Value} {fod16 fan16 : Option Addr} {fsl16 : Array (Option Value)}
    {f17 : Addr} {foc17 fkV17 fdoc17 fpm17 fcd17 fct17 : Value} {fod17 fan17 : Option Addr} {fsl17 : Array (Option Value)}
    {f18 : Addr} {foc18 fkV18 fdoc18 fpm18 fcd18 fct18 : Value} {fod18 fan18 : Option Addr} {fsl18 : Array (Option Value)}
    {f19 : Addr} {foc19 fkV19 fdoc19 fpm19 fcd19 fct19 : Value} {fod19 fan19 : Option Addr} {fsl19 : Array (Option Value)}
    {f20 : Addr} {foc20 fkV20 fdoc20 fpm20 fcd20 fct20 : Value} {fod20 fan20 : Option Addr} {fsl20 : Array (Option Value)}
    {f21 : Addr} {foc21 fkV21 fdoc21 fpm21 fcd21 fct21 : Value} {fod21 fan21 : Option Addr} {fsl21 : Array (Option Value)}
    {f22 : Addr} {foc22 fkV22 fdoc22 fpm22 fcd22 fct22 : Value} {fod22 fan22 : Option Addr} {fsl22 : Array (Option Value)}
    {f23 : Addr} {foc23 fkV23 fdoc23 fpm23 fcd23 fct23 : Value} {fod23 fan23 : Option Addr} {fsl23 : Array (Option Value)}
    {f24 : Addr} {foc24 fkV24 fdoc24 fpm24 fcd24 fct24 : Value} {fod24 fan24 : Option Addr} {fsl24 : Array (Option Value)}
    {f25 : Addr} {foc25 fkV25 fdoc25 fpm25 fcd25 fct25 : Value} {fod25 fan25 : Option Addr} {fsl25 : Array (Option Value)}
    {f26 : Addr} {foc26 fkV26 fdoc26 fpm26 fcd26 fct26 : Value} {fod26 fan26 : Option Addr} {fsl26 : Array (Option Value)}
    {f27 : Addr} {foc27 fkV27 fdoc27 fpm27 fcd27 fct27 : Value} {fod27 fan27 : Option Addr} {fsl27 : Array (Option Value)}
    {f28 : Addr} {foc28 fkV28 fdoc28 fpm28 fcd28 fct28 : Value} {fod28 fan28 : Option Addr} {fsl28 : Array (Option Value)}
    {f29 : Addr} {foc29 fkV29 fdoc29 fpm29 fcd29 fct29 : Value} {fod29 fan29 : Option Addr} {fsl29 : Array (Option Value)}
    {f30 : Addr} {foc30 fkV30 fdoc30 fpm30 fcd30 fct30 : Value} {fod30 fan30 : Option Addr} {fsl30 : Array (Option Value)}
    {m0 : Addr} {moc0 mkV0 mdoc0 mpm0 mcd0 mct0 : Value} {mod0 man0 : Option Addr} {msl0 : Array (Option Value)}
    {m1 : Addr} {moc1 mkV1 mdoc1 mpm1 mcd1 mct1 : Value} {mod1 man1 : Option Addr} {msl1 : Array (Option Value)}
    {m2 : Addr} {moc2 mkV2 mdoc2 mpm2 mcd2 mct2 : Value} {mod2 man2 : Option Addr} {msl2 : Array (Option Value)}
    {m3 : Addr} {moc3 mkV3 mdoc3 mpm3 mcd3 mct3 : Value} {mod3 man3 : Option Addr} {msl3 : Array (Option Value)}
    {m4 : Addr} {moc4 mkV4 mdoc4 mpm4 mcd4 mct4 : Value} {mod4 man4 : Option Addr} {msl4 : Array (Option Value)}
    {m5 : Addr} {moc5 mkV5 mdoc5 mpm5 mcd5 mct5 : Value} {mod5 man5 : Option Addr} {msl5 : Array (Option Value)}
    {m6 : Addr} {moc6 mkV6 mdoc6 mpm6 mcd6 mct6 : Value} {mod6 man6 : Option Addr} {msl6 : Array (Option Value)}
    {m7 : Addr} {moc7 mkV7 mdoc7 mpm7 mcd7 mct7 : Value} {mod7 man7 : Option Addr} {msl7 : Array (Option Value)}
    {m8 : Addr} {moc8 mkV8 mdoc8 mpm8 mcd8 mct8 : Value} {mod8 man8 : Option Addr} {msl8 : Array (Option Value)}
    {m9 : Addr} {moc9 mkV9 mdoc9 mpm9 mcd9 mct9 : Value} {mod9 man9 : Option Addr} {msl9 : Array (Option Value)}
    {m10 : Addr} {moc10 mkV10 mdoc10 mpm10 mcd10 mct10 : Value} {mod10 man10 : Option Addr} {msl10 : Array (Option Value)}
    {m11 : Addr} {moc11 mkV11 mdoc11 mpm11 mcd11 mct11 : Value} {mod11 man11 : Option Addr} {msl11 : Array (Option Value)}
    (aC0 : PySem.W.nsIn K mainGlobals "BadKind" = some (some (.ref CK)))
    (xC0 : K.lookup CK = some (excClassObj cn0 q0 CK N0 bs0 [.ref R0, .type "ValueError", .type "Exception", .type "BaseException", .type "object"] true sn0 sub0 ab0 col0 dd0 ka0 kb0 kc0 kd0 ke0 "ValueError.__new__"))
    (iC0 : PySem.W.findIn K (.ref CK) "__init__" = some (some (.ref fK)))
    (lI0 : K.lookup fK = some ⟨oc0, od0, .func (PySem.W.ksFn "__init__" qual0 (defArgs s_BadKind_init) (defBody s_BadKind_init) (defScope s_BadKind_init) .none kV0 doc0 pm0 an0 (.ref cda0) ct0 cc0), osl0⟩)
    (cd0 : PySem.W.codeIn K (.ref cda0) qual0 = true)
    (ce0 : K.lookup cc0 = some ⟨cl0, cld0, .cell (some (.ref CK)), csl0⟩)
    (ca0 : K.lookup cda0 = some ⟨ccl0, cdd0, .fields vs0, ccs0⟩)
    (hv0 : vs0[2]? = some (.str file0 tf0))
    (hf0 : ((l.prog.main.file : Str) == file0) = true)
    (ch0 : exB K CK fK ["kind"] = true)
    (aC1 : PySem.W.nsIn K mainGlobals "BadWay" = some (some (.ref CY)))
    (xC1 : K.lookup CY = some (excClassObj cn1 q1 CY N1 bs1 [.ref R1, .type "ValueError", .type "Exception", .type "BaseException", .type "object"] true sn1 sub1 ab1 col1 dd1 ka1 kb1 kc1 kd1 ke1 "ValueError.__new__"))
    (iC1 : PySem.W.findIn K (.ref CY) "__init__" = some (some (.ref fY)))
    (lI1 : K.lookup fY = some ⟨oc1, od1, .func (PySem.W.ksFn "__init__" qual1 (defArgs s_BadWay_init) (defBody s_BadWay_init) (defScope s_BadWay_init) .none kV1 doc1 pm1 an1 (.ref cda1) ct1 cc1), osl1⟩)
    (cd1 : PySem.W.codeIn K (.ref cda1) qual1 = true)
    (ce1 : K.lookup cc1 = some ⟨cl1, cld1, .cell (some (.ref CY)), csl1⟩)
    (ca1 : K.lookup cda1 = some ⟨ccl1, cdd1, .fields vs1, ccs1⟩)
    (hv1 : vs1[2]? = some (.str file1 tf1))
    (hf1 : ((l.prog.main.file : Str) == file1) = true)
    (ch1 : exB K CY fY ["way"] = true)
    (aC2 : PySem.W.nsIn K mainGlobals "BadLine" = some (some (.ref CL)))
    (xC2 : K.lookup CL = some (excClassObj cn2 q2 CL N2 bs2 [.ref R2, .type "ValueError", .type "Exception", .type "BaseException", .type "object"] true sn2 sub2 ab2 col2 dd2 ka2 kb2 kc2 kd2 ke2 "ValueError.__new__"))
    (iC2 : PySem.W.findIn K (.ref CL) "__init__" = some (some (.ref fL)))
    (lI2 : K.lookup fL = some ⟨oc2, od2, .func (PySem.W.ksFn "__init__" qual2 (defArgs s_BadLine_init) (defBody s_BadLine_init) (defScope s_BadLine_init) .none kV2 doc2 pm2 an2 (.ref cda2) ct2 cc2), osl2⟩)
    (cd2 : PySem.W.codeIn K (.ref cda2) qual2 = true)
    (ce2 : K.lookup cc2 = some ⟨cl2, cld2, .cell (some (.ref CL)), csl2⟩)
    (ca2 : K.lookup cda2 = some ⟨ccl2, cdd2, .fields vs2, ccs2⟩)
    (hv2 : vs2[2]? = some (.str file2 tf2))
    (hf2 : ((l.prog.main.file : Str) == file2) = true)
    (ch2 : exB K CL fL ["line"] = true)
    (aC3 : PySem.W.nsIn K mainGlobals "TooMany" = some (some (.ref CM)))
    (xC3 : K.lookup CM = some (excClassObj cn3 q3 CM N3 bs3 [.ref R3, .type "ValueError", .type "Exception", .type "BaseException", .type "object"] true sn3 sub3 ab3 col3 dd3 ka3 kb3 kc3 kd3 ke3 "ValueError.__new__"))
    (iC3 : PySem.W.findIn K (.ref CM) "__init__" = some (some (.ref fM)))
    (lI3 : K.lookup fM = some ⟨oc3, od3, .func (PySem.W.ksFn "__init__" qual3 (defArgs s_TooMany_init) (defBody s_TooMany_init) (defScope s_TooMany_init) .none kV3 doc3 pm3 an3 (.ref cda3) ct3 cc3), osl3⟩)
    (cd3 : PySem.W.codeIn K (.ref cda3) qual3 = true)
    (ce3 : K.lookup cc3 = some ⟨cl3, cld3, .cell (some (.ref CM)), csl3⟩)
    (ca3 : K.lookup cda3 = some ⟨ccl3, cdd3, .fields vs3, ccs3⟩)
    (hv3 : vs3[2]? = some (.str file3 tf3))
    (hf3 : ((l.prog.main.file : Str) == file3) = true)
    (ch3 : exB K CM fM ["what", "many", "most"] = true)
    (aRE : PySem.W.nsIn K mainGlobals "RingError" = some (some (.ref RE)))
    (aCF : PySem.W.nsIn K mainGlobals "Refused" = some (some (.ref CF)))
    (rel : relCB K CK CY CL CM RE = true)
    (op : PySem.W.nsIn K PySem.cStatics "thirdparty.any" = some none)
    (htop : (l.prog.main.scope.names.lookup ("super" : Str)).isSome = false)
    (aC : PySem.W.nsIn K mainGlobals "Line" = some (some (.ref C)))
    (bC : clsB K C lineNames = true)
    (aCW : PySem.W.nsIn K mainGlobals "Walk" = some (some (.ref CW)))
    (bCW : clsB K CW walkNames = true)
    (aCC : PySem.W.nsIn K mainGlobals "Code" = some (some (.ref CC)))
    (bCC : clsB K CC codeNames = true)
    (cod : codeB K CC = true)
    (ma0 : PySem.W.findIn K (.ref C) "__init__" = some (some (.ref m0)))
    (ml0 : K.lookup m0 = some ⟨moc0, mod0, .func (PySem.W.fnOf "__init__" "Line.__init__" (defArgs s_Line_init) (defBody s_Line_init) (defScope s_Line_init) .none mkV0 mdoc0 mpm0 man0 mcd0 mct0), msl0⟩)
    (mc0 : PySem.W.codeIn K mcd0 "Line.__init__" = true)
    (mk0 : methB K m0 = true)
    (ma1 : PySem.W.findIn K (.ref CW) "__init__" = some (some (.ref m1)))
    (ml1 : K.lookup m1 = some ⟨moc1, mod1, .func (PySem.W.fnOf "__init__" "Walk.__init__" (defArgs s_Walk_init) (defBody s_Walk_init) (defScope s_Walk_init) .none mkV1 mdoc1 mpm1 man1 mcd1 mct1), msl1⟩)
    (mc1 : PySem.W.codeIn K mcd1 "Walk.__init__" = true)
    (mk1 : methB K m1 = true)
    (ma2 : PySem.W.findIn K (.ref CW) "is_behind_loops" = some (some (.ref m2)))
    (ml2 : K.lookup m2 = some ⟨moc2, mod2, .func (PySem.W.fnOf "is_behind_loops" "Walk.is_behind_loops" (defArgs s_Walk_is_behind_loops) (defBody s_Walk_is_behind_loops) (defScope s_Walk_is_behind_loops) .none mkV2 mdoc2 mpm2 man2 mcd2 mct2), msl2⟩)
    (mc2 : PySem.W.codeIn K mcd2 "Walk.is_behind_loops" = true)
    (mk2 : methB K m2 = true)
    (ma3 : PySem.W.findIn K (.ref CW) "may_place" = some (some (.ref m3)))
    (ml3 : K.lookup m3 = some ⟨moc3, mod3, .func (PySem.W.fnOf "may_place" "Walk.may_place" (defArgs s_Walk_may_place) (defBody s_Walk_may_place) (defScope s_Walk_may_place) .none mkV3 mdoc3 mpm3 man3 mcd3 mct3), msl3⟩)
    (mc3 : PySem.W.codeIn K mcd3 "Walk.may_place" = true)
    (mk3 : methB K m3 = true)
    (ma4 : PySem.W.findIn K (.ref CW) "meet_loop" = some (some (.ref m4)))
    (ml4 : K.lookup m4 = some ⟨moc4, mod4, .func (PySem.W.fnOf "meet_loop" "Walk.meet_loop" (defArgs s_Walk_meet_loop) (defBody s_Walk_meet_loop) (defScope s_Walk_meet_loop) .none mkV4 mdoc4 mpm4 man4 mcd4 mct4), msl4⟩)
    (mc4 : PySem.W.codeIn K mcd4 "Walk.meet_loop" = true)
    (mk4 : methB K m4 = true)
    (ma5 : PySem.W.findIn K (.ref CW) "meet_early_setting" = some (some (.ref m5)))
    (ml5 : K.lookup m5 = some ⟨moc5, mod5, .func (PySem.W.fnOf "meet_early_setting" "Walk.meet_early_setting" (defArgs s_Walk_meet_early_setting) (defBody s_Walk_meet_early_setting) (defScope s_Walk_meet_early_setting) .none mkV5 mdoc5 mpm5 man5 mcd5 mct5), msl5⟩)
    (mc5 : PySem.W.codeIn K mcd5 "Walk.meet_early_setting" = true)
    (mk5 : methB K m5 = true)
    (ma6 : PySem.W.findIn K (.ref CW) "meet_late_setting" = some (some (.ref m6)))
    (ml6 : K.lookup m6 = some ⟨moc6, mod6, .func (PySem.W.fnOf "meet_late_setting" "Walk.meet_late_setting" (defArgs s_Walk_meet_late_setting) (defBody s_Walk_meet_late_setting) (defScope s_Walk_meet_late_setting) .none mkV6 mdoc6 mpm6 man6 mcd6 mct6), msl6⟩)
    (mc6 : PySem.W.codeIn K mcd6 "Walk.meet_late_setting" = true)
    (mk6 : methB K m6 = true)
    (ma7 : PySem.W.findIn K (.ref CC) "__init__" = some (some (.ref m7)))
    (ml7 : K.lookup m7 = some ⟨moc7, mod7, .func (PySem.W.fnOf "__init__" "Code.__init__" (defArgs s_Code_init) (defBody s_Code_init) (defScope s_Code_init) .none mkV7 mdoc7 mpm7 man7 mcd7 mct7), msl7⟩)
    (mc7 : PySem.W.codeIn K mcd7 "Code.__init__" = true)
    (mk7 : methB K m7 = true)
    (ma8 : PySem.W.findIn K (.ref CC) "__len__" = some (some (.ref m8)))
    (ml8 : K.lookup m8 = some ⟨moc8, mod8, .func (PySem.W.fnOf "__len__" "Code.__len__" (defArgs s_Code_len) (defBody s_Code_len) (defScope s_Code_len) .none mkV8 mdoc8 mpm8 man8 mcd8 mct8), msl8⟩)
    (mc8 : PySem.W.codeIn K mcd8 "Code.__len__" = true)
    (mk8 : methB K m8 = true)
    (ma9 : PySem.W.findIn K (.ref CC) "__getitem__" = some (some (.ref m9)))
    (ml9 : K.lookup m9 = some ⟨moc9, mod9, .func (PySem.W.fnOf "__getitem__" "Code.__getitem__" (defArgs s_Code_getitem) (defBody s_Code_getitem) (defScope s_Code_getitem) .none mkV9 mdoc9 mpm9 man9 mcd9 mct9), msl9⟩)
    (mc9 : PySem.W.codeIn K mcd9 "Code.__getitem__" = true)
    (mk9 : methB K m9 = true)
    (ma10 : PySem.W.findIn K (.ref CC) "__eq__" = some (some (.ref m10)))
    (ml10 : K.lookup m10 = some ⟨moc10, mod10, .func (PySem.W.fnOf "__eq__" "Code.__eq__" (defArgs s_Code_eq) (defBody s_Code_eq) (defScope s_Code_eq) .none mkV10 mdoc10 mpm10 man10 mcd10 mct10), msl10⟩)
    (mc10 : PySem.W.codeIn K mcd10 "Code.__eq__" = true)
    (mk10 : methB K m10 = true)
    (ma11 : PySem.W.findIn K (.ref CC) "in_way" = some (some (.ref m11)))
    (ml11 : K.lookup m11 = some ⟨moc11, mod11, .func (PySem.W.fnOf "in_way" "Code.in_way" (defArgs s_Code_in_way) (defBody s_Code_in_way) (defScope s_Code_in_way) .none mkV11 mdoc11 mpm11 man11 mcd11 mct11), msl11⟩)
    (mc11 : PySem.W.codeIn K mcd11 "Code.in_way" = true)
    (mk11 : methB K m11 = true)
    (aP_ : PySem.W.nsIn K mainGlobals "PLACES" = some (some (.ref aP)))
    (lP : K.lookup aP = some ⟨.type "dict", none, .dict pes pn, #[]⟩)
    (kl : PySem.W.KeysLit w.params pes.toList)
    (sP : (aP == sysModules) = false)
    (pB : placesB K pes.toList PL = true)
    (ta0 : PySem.W.nsIn K mainGlobals "KINDS" = some (some (.ref t0)))
    (tb0 : strTupB K t0 kindsL = true)
    (ta1 : PySem.W.nsIn K mainGlobals "WAYS" = some (some (.ref t1)))
    (tb1 : strTupB K t1 waysL = true)
    (ta2 : PySem.W.nsIn K mainGlobals "STEP" = some (some (.ref t2)))
    (tb2 : strTupB K t2 ["at", "at"] = true)
    (ta3 : PySem.W.nsIn K mainGlobals "START" = some (some (.ref t3)))
    (tb3 : strTupB K t3 ["at", "first"] = true)
    (ta4 : PySem.W.nsIn K mainGlobals "WRITES" = some (some (.ref t4)))
    (tb4 : formsB K t4 WR = true)
    (ta5 : PySem.W.nsIn K mainGlobals "OUTER_LINES" = some (some (.ref t5)))
    (tb5 : formsB K t5 OL = true)
    (ta6 : PySem.W.nsIn K mainGlobals "LOOP_LINES" = some (some (.ref t6)))
    (tb6 : formsB K t6 LL = true)
    (ta7 : PySem.W.nsIn K mainGlobals "PARTS" = some (some (.ref t7)))
    (tb7 : formsB K t7 PR = true)
    (ia0 : PySem.W.nsIn K mainGlobals "MOST_STEPS" = some (some (.int 60 ti0)))
    (ia1 : PySem.W.nsIn K mainGlobals "MOST_LINES" = some (some (.int 60 ti1)))
    (ia2 : PySem.W.nsIn K mainGlobals "MOST_IFS" = some (some (.int 7 ti2)))
    (ia3 : PySem.W.nsIn K mainGlobals "MOST_LOOPS" = some (some (.int 2 ti3)))
    (ia4 : PySem.W.nsIn K mainGlobals "MOST_NEXTS" = some (some (.int 12 ti4)))
    (ia5 : PySem.W.nsIn K mainGlobals "MOST_WRITES" = some (some (.int 12 ti5)))
    (a0 : PySem.W.nsIn K mainGlobals "is_count" = some (some (.ref f0)))
    (l0 : K.lookup f0 = some ⟨foc0, fod0, .func (PySem.W.fnOf "is_count" "is_count" (defArgs s_is_count) (defBody s_is_count) (defScope s_is_count) .none fkV0 fdoc0 fpm0 fan0 fcd0 fct0), fsl0⟩)
    (c0 : PySem.W.codeIn K fcd0 "is_count" = true)
    (k0 : PySem.W.keepIn K (.ref f0) = true)
    (a1 : PySem.W.nsIn K mainGlobals "fits" = some (some (.ref f1)))
    (l1 : K.lookup f1 = some ⟨foc1, fod1, .func (PySem.W.fnOf "fits" "fits" (defArgs s_fits) (defBody s_fits) (defScope s_fits) .none fkV1 fdoc1 fpm1 fan1 fcd1 fct1), fsl1⟩)
    (c1 : PySem.W.codeIn K fcd1 "fits" = true)
    (k1 : PySem.W.keepIn K (.ref f1) = true)
    (a2 : PySem.W.nsIn K mainGlobals "filled" = some (some (.ref f2)))
    (l2 : K.lookup f2 = some ⟨foc2, fod2, .func (PySem.W.fnOf "filled" "filled" (defArgs s_filled) (defBody s_filled) (defScope s_filled) .none fkV2 fdoc2 fpm2 fan2 fcd2 fct2), fsl2⟩)
    (c2 : PySem.W.codeIn K fcd2 "filled" = true)
    (k2 : PySem.W.keepIn K (.ref f2) = true)
    (a3 : PySem.W.nsIn K mainGlobals "first_filled" = some (some (.ref f3)))
    (l3 : K.lookup f3 = some ⟨foc3, fod3, .func (PySem.W.fnOf "first_filled" "first_filled" (defArgs s_first_filled) (defBody s_first_filled) (defScope s_first_filled) .none fkV3 fdoc3 fpm3 fan3 fcd3 fct3), fsl3⟩)
    (c3 : PySem.W.codeIn K fcd3 "first_filled" = true)
    (k3 : PySem.W.keepIn K (.ref f3) = true)
    (a4 : PySem.W.nsIn K mainGlobals "read_part" = some (some (.ref f4)))
    (l4 : K.lookup f4 = some ⟨foc4, fod4, .func (PySem.W.fnOf "read_part" "read_part" (defArgs s_read_part) (defBody s_read_part) (defScope s_read_part) .none fkV4 fdoc4 fpm4 fan4 fcd4 fct4), fsl4⟩)
    (c4 : PySem.W.codeIn K fcd4 "read_part" = true)
    (k4 : PySem.W.keepIn K (.ref f4) = true)
    (a5 : PySem.W.nsIn K mainGlobals "read_test" = some (some (.ref f5)))
    (l5 : K.lookup f5 = some ⟨foc5, fod5, .func (PySem.W.fnOf "read_test" "read_test" (defArgs s_read_test) (defBody s_read_test) (defScope s_read_test) .none fkV5 fdoc5 fpm5 fan5 fcd5 fct5), fsl5⟩)
    (c5 : PySem.W.codeIn K fcd5 "read_test" = true)
    (k5 : PySem.W.keepIn K (.ref f5) = true)
    (a6 : PySem.W.nsIn K mainGlobals "read_line" = some (some (.ref f6)))
    (l6 : K.lookup f6 = some ⟨foc6, fod6, .func (PySem.W.fnOf "read_line" "read_line" (defArgs s_read_line) (defBody s_read_line) (defScope s_read_line) .none fkV6 fdoc6 fpm6 fan6 fcd6 fct6), fsl6⟩)
    (c6 : PySem.W.codeIn K fcd6 "read_line" = true)
    (k6 : PySem.W.keepIn K (.ref f6) = true)
    (a7 : PySem.W.nsIn K mainGlobals "read_turn" = some (some (.ref f7)))
    (l7 : K.lookup f7 = some ⟨foc7, fod7, .func (PySem.W.fnOf "read_turn" "read_turn" (defArgs s_read_turn) (defBody s_read_turn) (defScope s_read_turn) .none fkV7 fdoc7 fpm7 fan7 fcd7 fct7), fsl7⟩)
    (c7 : PySem.W.codeIn K fcd7 "read_turn" = true)
    (k7 : PySem.W.keepIn K (.ref f7) = true)
    (a8 : PySem.W.nsIn K mainGlobals "loop_around" = some (some (.ref f8)))
    (l8 : K.lookup f8 = some ⟨foc8, fod8, .func (PySem.W.fnOf "loop_around" "loop_around" (defArgs s_loop_around) (defBody s_loop_around) (defScope s_loop_around) .none fkV8 fdoc8 fpm8 fan8 fcd8 fct8), fsl8⟩)
    (c8 : PySem.W.codeIn K fcd8 "loop_around" = true)
    (k8 : PySem.W.keepIn K (.ref f8) = true)
    (a9 : PySem.W.nsIn K mainGlobals "read_lines" = some (some (.ref f9)))
    (l9 : K.lookup f9 = some ⟨foc9, fod9, .func (PySem.W.fnOf "read_lines" "read_lines" (defArgs s_read_lines) (defBody s_read_lines) (defScope s_read_lines) .none fkV9 fdoc9 fpm9 fan9 fcd9 fct9), fsl9⟩)
    (c9 : PySem.W.codeIn K fcd9 "read_lines" = true)
    (k9 : PySem.W.keepIn K (.ref f9) = true)
    (a10 : PySem.W.nsIn K mainGlobals "landing" = some (some (.ref f10)))
    (l10 : K.lookup f10 = some ⟨foc10, fod10, .func (PySem.W.fnOf "landing" "landing" (defArgs s_landing) (defBody s_landing) (defScope s_landing) .none fkV10 fdoc10 fpm10 fan10 fcd10 fct10), fsl10⟩)
    (c10 : PySem.W.codeIn K fcd10 "landing" = true)
    (k10 : PySem.W.keepIn K (.ref f10) = true)
    (a11 : PySem.W.nsIn K mainGlobals "link" = some (some (.ref f11)))
    (l11 : K.lookup f11 = some ⟨foc11, fod11, .func (PySem.W.fnOf "link" "link" (defArgs s_link) (defBody s_link) (defScope s_link) .none fkV11 fdoc11 fpm11 fan11 fcd11 fct11), fsl11⟩)
    (c11 : PySem.W.codeIn K fcd11 "link" = true)
    (k11 : PySem.W.keepIn K (.ref f11) = true)
    (a12 : PySem.W.nsIn K mainGlobals "read_program" = some (some (.ref f12)))
    (l12 : K.lookup f12 = some ⟨foc12, fod12, .func (PySem.W.fnOf "read_program" "read_program" (defArgs s_read_program) (defBody s_read_program) (defScope s_read_program) .none fkV12 fdoc12 fpm12 fan12 fcd12 fct12), fsl12⟩)
    (c12 : PySem.W.codeIn K fcd12 "read_program" = true)
    (k12 : PySem.W.keepIn K (.ref f12) = true)
    (a13 : PySem.W.nsIn K mainGlobals "is_way" = some (some (.ref f13)))
    (l13 : K.lookup f13 = some ⟨foc13, fod13, .func (PySem.W.fnOf "is_way" "is_way" (defArgs s_is_way) (defBody s_is_way) (defScope s_is_way) .none fkV13 fdoc13 fpm13 fan13 fcd13 fct13), fsl13⟩)
    (c13 : PySem.W.codeIn K fcd13 "is_way" = true)
    (k13 : PySem.W.keepIn K (.ref f13) = true)
    (a14 : PySem.W.nsIn K mainGlobals "is_kind" = some (some (.ref f14)))
    (l14 : K.lookup f14 = some ⟨foc14, fod14, .func (PySem.W.fnOf "is_kind" "is_kind" (defArgs s_is_kind) (defBody s_is_kind) (defScope s_is_kind) .none fkV14 fdoc14 fpm14 fan14 fcd14 fct14), fsl14⟩)
    (c14 : PySem.W.codeIn K fcd14 "is_kind" = true)
    (k14 : PySem.W.keepIn K (.ref f14) = true)
    (a15 : PySem.W.nsIn K mainGlobals "lines_of" = some (some (.ref f15)))
    (l15 : K.lookup f15 = some ⟨foc15, fod15, .func (PySem.W.fnOf "lines_of" "lines_of" (defArgs s_lines_of) (defBody s_lines_of) (defScope s_lines_of) .none fkV15 fdoc15 fpm15 fan15 fcd15 fct15), fsl15⟩)
    (c15 : PySem.W.codeIn K fcd15 "lines_of" = true)
    (k15 : PySem.W.keepIn K (.ref f15) = true)
    (a16 : PySem.W.nsIn K mainGlobals "barred_words" = some (some (.ref f16)))
    (l16 : K.lookup f16 = some ⟨foc16, fod16, .func (PySem.W.fnOf "barred_words" "barred_words" (defArgs s_barred_words) (defBody s_barred_words) (defScope s_barred_words) .none fkV16 fdoc16 fpm16 fan16 fcd16 fct16), fsl16⟩)
    (c16 : PySem.W.codeIn K fcd16 "barred_words" = true)
    (k16 : PySem.W.keepIn K (.ref f16) = true)
    (a17 : PySem.W.nsIn K mainGlobals "barred_lines" = some (some (.ref f17)))
    (l17 : K.lookup f17 = some ⟨foc17, fod17, .func (PySem.W.fnOf "barred_lines" "barred_lines" (defArgs s_barred_lines) (defBody s_barred_lines) (defScope s_barred_lines) .none fkV17 fdoc17 fpm17 fan17 fcd17 fct17), fsl17⟩)
    (c17 : PySem.W.codeIn K fcd17 "barred_lines" = true)
    (k17 : PySem.W.keepIn K (.ref f17) = true)
    (a18 : PySem.W.nsIn K mainGlobals "all_ways" = some (some (.ref f18)))
    (l18 : K.lookup f18 = some ⟨foc18, fod18, .func (PySem.W.fnOf "all_ways" "all_ways" (defArgs s_all_ways) (defBody s_all_ways) (defScope s_all_ways) .none fkV18 fdoc18 fpm18 fan18 fcd18 fct18), fsl18⟩)
    (c18 : PySem.W.codeIn K fcd18 "all_ways" = true)
    (k18 : PySem.W.keepIn K (.ref f18) = true)
    (a19 : PySem.W.nsIn K mainGlobals "behind_go" = some (some (.ref f19)))
    (l19 : K.lookup f19 = some ⟨foc19, fod19, .func (PySem.W.fnOf "behind_go" "behind_go" (defArgs s_behind_go) (defBody s_behind_go) (defScope s_behind_go) .none fkV19 fdoc19 fpm19 fan19 fcd19 fct19), fsl19⟩)
    (c19 : PySem.W.codeIn K fcd19 "behind_go" = true)
    (k19 : PySem.W.keepIn K (.ref f19) = true)
    (a20 : PySem.W.nsIn K mainGlobals "refused_on" = some (some (.ref f20)))
    (l20 : K.lookup f20 = some ⟨foc20, fod20, .func (PySem.W.fnOf "refused_on" "refused_on" (defArgs s_refused_on) (defBody s_refused_on) (defScope s_refused_on) .none fkV20 fdoc20 fpm20 fan20 fcd20 fct20), fsl20⟩)
    (c20 : PySem.W.codeIn K fcd20 "refused_on" = true)
    (k20 : PySem.W.keepIn K (.ref f20) = true)
    (a21 : PySem.W.nsIn K mainGlobals "refused_lines" = some (some (.ref f21)))
    (l21 : K.lookup f21 = some ⟨foc21, fod21, .func (PySem.W.fnOf "refused_lines" "refused_lines" (defArgs s_refused_lines) (defBody s_refused_lines) (defScope s_refused_lines) .none fkV21 fdoc21 fpm21 fan21 fcd21 fct21), fsl21⟩)
    (c21 : PySem.W.codeIn K fcd21 "refused_lines" = true)
    (k21 : PySem.W.keepIn K (.ref f21) = true)
    (a22 : PySem.W.nsIn K mainGlobals "outer_ifs" = some (some (.ref f22)))
    (l22 : K.lookup f22 = some ⟨foc22, fod22, .func (PySem.W.fnOf "outer_ifs" "outer_ifs" (defArgs s_outer_ifs) (defBody s_outer_ifs) (defScope s_outer_ifs) .none fkV22 fdoc22 fpm22 fan22 fcd22 fct22), fsl22⟩)
    (c22 : PySem.W.codeIn K fcd22 "outer_ifs" = true)
    (k22 : PySem.W.keepIn K (.ref f22) = true)
    (a23 : PySem.W.nsIn K mainGlobals "_law_bag" = some (some (.ref f23)))
    (l23 : K.lookup f23 = some ⟨foc23, fod23, .func (PySem.W.fnOf "_law_bag" "_law_bag" (defArgs s__law_bag) (defBody s__law_bag) (defScope s__law_bag) .none fkV23 fdoc23 fpm23 fan23 fcd23 fct23), fsl23⟩)
    (c23 : PySem.W.codeIn K fcd23 "_law_bag" = true)
    (k23 : PySem.W.keepIn K (.ref f23) = true)
    (a24 : PySem.W.nsIn K mainGlobals "_law_draw" = some (some (.ref f24)))
    (l24 : K.lookup f24 = some ⟨foc24, fod24, .func (PySem.W.fnOf "_law_draw" "_law_draw" (defArgs s__law_draw) (defBody s__law_draw) (defScope s__law_draw) .none fkV24 fdoc24 fpm24 fan24 fcd24 fct24), fsl24⟩)
    (c24 : PySem.W.codeIn K fcd24 "_law_draw" = true)
    (k24 : PySem.W.keepIn K (.ref f24) = true)
    (a25 : PySem.W.nsIn K mainGlobals "_law_told" = some (some (.ref f25)))
    (l25 : K.lookup f25 = some ⟨foc25, fod25, .func (PySem.W.fnOf "_law_told" "_law_told" (defArgs s__law_told) (defBody s__law_told) (defScope s__law_told) .none fkV25 fdoc25 fpm25 fan25 fcd25 fct25), fsl25⟩)
    (c25 : PySem.W.codeIn K fcd25 "_law_told" = true)
    (k25 : PySem.W.keepIn K (.ref f25) = true)
    (a26 : PySem.W.nsIn K mainGlobals "_law_lines" = some (some (.ref f26)))
    (l26 : K.lookup f26 = some ⟨foc26, fod26, .func (PySem.W.fnOf "_law_lines" "_law_lines" (defArgs s__law_lines) (defBody s__law_lines) (defScope s__law_lines) .none fkV26 fdoc26 fpm26 fan26 fcd26 fct26), fsl26⟩)
    (c26 : PySem.W.codeIn K fcd26 "_law_lines" = true)
    (k26 : PySem.W.keepIn K (.ref f26) = true)
    (a27 : PySem.W.nsIn K mainGlobals "_law_order_right" = some (some (.ref f27)))
    (l27 : K.lookup f27 = some ⟨foc27, fod27, .func (PySem.W.fnOf "_law_order_right" "_law_order_right" (defArgs s__law_order_right) (defBody s__law_order_right) (defScope s__law_order_right) .none fkV27 fdoc27 fpm27 fan27 fcd27 fct27), fsl27⟩)
    (c27 : PySem.W.codeIn K fcd27 "_law_order_right" = true)
    (k27 : PySem.W.keepIn K (.ref f27) = true)
    (a28 : PySem.W.nsIn K mainGlobals "_law_ifs_right" = some (some (.ref f28)))
    (l28 : K.lookup f28 = some ⟨foc28, fod28, .func (PySem.W.fnOf "_law_ifs_right" "_law_ifs_right" (defArgs s__law_ifs_right) (defBody s__law_ifs_right) (defScope s__law_ifs_right) .none fkV28 fdoc28 fpm28 fan28 fcd28 fct28), fsl28⟩)
    (c28 : PySem.W.codeIn K fcd28 "_law_ifs_right" = true)
    (k28 : PySem.W.keepIn K (.ref f28) = true)
    (a29 : PySem.W.nsIn K mainGlobals "_law_ways_right" = some (some (.ref f29)))
    (l29 : K.lookup f29 = some ⟨foc29, fod29, .func (PySem.W.fnOf "_law_ways_right" "_law_ways_right" (defArgs s__law_ways_right) (defBody s__law_ways_right) (defScope s__law_ways_right) .none fkV29 fdoc29 fpm29 fan29 fcd29 fct29), fsl29⟩)
    (c29 : PySem.W.codeIn K fcd29 "_law_ways_right" = true)
    (k29 : PySem.W.keepIn K (.ref f29) = true)
    (a30 : PySem.W.nsIn K mainGlobals "law" = some (some (.ref f30)))
    (l30 : K.lookup f30 = some ⟨foc30, fod30, .func (PySem.W.fnOf "law" "law" (defArgs s_law) (defBody s_law) (defScope s_law) .none fkV30 fdoc30 fpm30 fan30 fcd30 fct30), fsl30⟩)
    (c30 : PySem.W.codeIn K fcd30 "law" = true)
    (k30 : PySem.W.keepIn K (.ref f30) = true)
    (z0 : PySem.W.nsIn K mainGlobals "isinstance" = some none)
    (z1 : PySem.W.nsIn K mainGlobals "int" = some none)
    (z2 : PySem.W.nsIn K mainGlobals "str" = some none)
    (z3 : PySem.W.nsIn K mainGlobals "tuple" = some none)
    (z4 : PySem.W.nsIn K mainGlobals "list" = some none)
    (z5 : PySem.W.nsIn K mainGlobals "zip" = some none)
    (z6 : PySem.W.nsIn K mainGlobals "len" = some none)
    (z7 : PySem.W.nsIn K mainGlobals "all" = some none)
    (z8 : PySem.W.nsIn K mainGlobals "any" = some none)
    (z9 : PySem.W.nsIn K mainGlobals "range" = some none)
    (z10 : PySem.W.nsIn K mainGlobals "enumerate" = some none)
    (z11 : PySem.W.nsIn K mainGlobals "min" = some none)
    (z12 : PySem.W.nsIn K mainGlobals "set" = some none)
    (z13 : PySem.W.nsIn K mainGlobals "super" = some none)
    : ∃ fd : FuncData, (∀ (s : Shared) (v : Value), BindsTo s fd ⟨[v], []⟩ [("script", v)]) ∧ ∀ base : Heap, K.In base → base.Ns mainGlobals mg → FnOk l.prog w K mg base CX0 14 fa fd ["script"] (spLawK K) := by
  have e := hfa.symm.trans (PySem.W.mg_of X G a30)
  cases e
  have E0 := ex_mk X G text0 aC0 xC0 rfl lI0 cd0 ce0 ca0 hv0 hf0 ch0 op z13 htop
  have E1 := ex_mk X G text1 aC1 xC1 rfl lI1 cd1 ce1 ca1 hv1 hf1 ch1 op z13 htop
  have E2 := ex_mk X G text2 aC2 xC2 rfl lI2 cd2 ce2 ca2 hv2 hf2 ch2 op z13 htop
  have E3 := ex_mk X G text3 aC3 xC3 rfl lI3 cd3 ce3 ca3 hv3 hf3 ch3 op z13 htop
  have XA : EXA l.prog K mg CK CY CL CM fK fY fL fM := ⟨E0, E1, E2, E3⟩
  obtain ⟨TL, mkL, kpL⟩ := clsB_ok (nm := "Line") bC (PySem.W.mg_of X G aC)
  obtain ⟨TW, mkW, kpW⟩ := clsB_ok (nm := "Walk") bCW (PySem.W.mg_of X G aCW)
  obtain ⟨TC_, mkC, kpC⟩ := clsB_ok (nm := "Code") bCC (PySem.W.mg_of X G aCC)
  have CT := codeB_ok cod TC_
  obtain ⟨RC, yy⟩ := relCB_ok (mg := mg) (CF := CF) rel (PySem.W.mg_of X G aRE) (PySem.W.mg_of X G aCF) (by
    intro C hC
    simp only [List.mem_cons, List.not_mem_nil, or_false] at hC
    rcases hC with e | e | e | e <;> subst e
    · exact exc_mk ch0 CT.hn CT.tk
    · exact exc_mk ch1 CT.hn CT.tk
    · exact exc_mk ch2 CT.hn CT.tk
    · exact exc_mk ch3 CT.hn CT.tk)
  have TG : GB mg := ⟨PySem.W.mg_none_of X G z0, PySem.W.mg_none_of X G z1, PySem.W.mg_none_of X G z2, PySem.W.mg_none_of X G z3, PySem.W.mg_none_of X G z4, PySem.W.mg_none_of X G z5, PySem.W.mg_none_of X G z6, PySem.W.mg_none_of X G z7, PySem.W.mg_none_of X G z8, PySem.W.mg_none_of X G z9, PySem.W.mg_none_of X G z10, PySem.W.mg_none_of X G z11, PySem.W.mg_none_of X G z12⟩
  have BT : BTxt mg := ⟨PySem.W.mg_none_of X G z6, PySem.W.mg_none_of X G z1, PySem.W.mg_none_of X G z4⟩
  have TF : TopF K w mg := ⟨⟨aP, PySem.W.mg_of X G aP_, places_mk lP kl sP pB⟩, ⟨ti0, PySem.W.mg_of X G ia0⟩, ⟨t4, PySem.W.mg_of X G ta4, formsB_ok tb4⟩, ⟨t5, PySem.W.mg_of X G ta5, formsB_ok tb5⟩, ⟨t6, PySem.W.mg_of X G ta6, formsB_ok tb6⟩, ⟨t7, PySem.W.mg_of X G ta7, formsB_ok tb7⟩⟩
  have TC : TopC K mg := ⟨⟨t0, PySem.W.mg_of X G ta0, strTupB_ok tb0⟩, ⟨t1, PySem.W.mg_of X G ta1, strTupB_ok tb1⟩, ⟨ti1, PySem.W.mg_of X G ia1⟩, ⟨ti2, PySem.W.mg_of X G ia2⟩, ⟨ti3, PySem.W.mg_of X G ia3⟩, ⟨ti4, PySem.W.mg_of X G ia4⟩, ⟨ti5, PySem.W.mg_of X G ia5⟩, ⟨t2, PySem.W.mg_of X G ta2, strTupB_dp tb2⟩, ⟨t3, PySem.W.mg_of X G ta3, strTupB_dp tb3⟩⟩
  have F0 := fun_mk (st := s_is_count) l0 c0 k0
  have b0 := F0.binds (ps := ["word"]) fun _ _ _ _ _ _ us hl => match us, hl with | [_], _ => rfl
  have R_0 : Raw K mg "is_count" s_is_count ["word"] := ⟨f0, _, F0, PySem.W.mg_of X G a0, b0⟩
  have F1 := fun_mk (st := s_fits) l1 c1 k1
  have b1 := F1.binds (ps := ["mark", "word"]) fun _ _ _ _ _ _ us hl => match us, hl with | [_, _], _ => rfl
  have R_1 : Raw K mg "fits" s_fits ["mark", "word"] := ⟨f1, _, F1, PySem.W.mg_of X G a1, b1⟩
  have F2 := fun_mk (st := s_filled) l2 c2 k2
  have b2 := F2.binds (ps := ["form", "words"]) fun _ _ _ _ _ _ us hl => match us, hl with | [_, _], _ => rfl
  have R_2 : Raw K mg "filled" s_filled ["form", "words"] := ⟨f2, _, F2, PySem.W.mg_of X G a2, b2⟩
  have F3 := fun_mk (st := s_first_filled) l3 c3 k3
  have b3 := F3.binds (ps := ["forms", "words"]) fun _ _ _ _ _ _ us hl => match us, hl with | [_, _], _ => rfl
  have R_3 : Raw K mg "first_filled" s_first_filled ["forms", "words"] := ⟨f3, _, F3, PySem.W.mg_of X G a3, b3⟩
  have F4 := fun_mk (st := s_read_part) l4 c4 k4
  have b4 := F4.binds (ps := ["words"]) fun _ _ _ _ _ _ us hl => match us, hl with | [_], _ => rfl
  have R_4 : Raw K mg "read_part" s_read_part ["words"] := ⟨f4, _, F4, PySem.W.mg_of X G a4, b4⟩
  have F5 := fun_mk (st := s_read_test) l5 c5 k5
  have b5 := F5.binds (ps := ["words"]) fun _ _ _ _ _ _ us hl => match us, hl with | [_], _ => rfl
  have R_5 : Raw K mg "read_test" s_read_test ["words"] := ⟨f5, _, F5, PySem.W.mg_of X G a5, b5⟩
  have F6 := fun_mk (st := s_read_line) l6 c6 k6
  have b6 := F6.binds (ps := ["text", "in_loop"]) fun _ _ _ _ _ _ us hl => match us, hl with | [_, _], _ => rfl
  have R_6 : Raw K mg "read_line" s_read_line ["text", "in_loop"] := ⟨f6, _, F6, PySem.W.mg_of X G a6, b6⟩
  have F7 := fun_mk (st := s_read_turn) l7 c7 k7
  have b7 := F7.binds (ps := ["word", "number", "lines", "opened"]) fun _ _ _ _ _ _ us hl => match us, hl with | [_, _, _, _], _ => rfl
  have R_7 : Raw K mg "read_turn" s_read_turn ["word", "number", "lines", "opened"] := ⟨f7, _, F7, PySem.W.mg_of X G a7, b7⟩
  have F8 := fun_mk (st := s_loop_around) l8 c8 k8
  have b8 := F8.binds (ps := ["lines", "opened"]) fun _ _ _ _ _ _ us hl => match us, hl with | [_, _], _ => rfl
  have R_8 : Raw K mg "loop_around" s_loop_around ["lines", "opened"] := ⟨f8, _, F8, PySem.W.mg_of X G a8, b8⟩
  have F9 := fun_mk (st := s_read_lines) l9 c9 k9
  have b9 := F9.binds (ps := ["texts"]) fun _ _ _ _ _ _ us hl => match us, hl with | [_], _ => rfl
  have R_9 : Raw K mg "read_lines" s_read_lines ["texts"] := ⟨f9, _, F9, PySem.W.mg_of X G a9, b9⟩
  have F10 := fun_mk (st := s_landing) l10 c10 k10
  have b10 := F10.binds (ps := ["lines", "number"]) fun _ _ _ _ _ _ us hl => match us, hl with | [_, _], _ => rfl
  have R_10 : Raw K mg "landing" s_landing ["lines", "number"] := ⟨f10, _, F10, PySem.W.mg_of X G a10, b10⟩
  have F11 := fun_mk (st := s_link) l11 c11 k11
  have b11 := F11.binds (ps := ["lines", "number"]) fun _ _ _ _ _ _ us hl => match us, hl with | [_, _], _ => rfl
  have R_11 : Raw K mg "link" s_link ["lines", "number"] := ⟨f11, _, F11, PySem.W.mg_of X G a11, b11⟩
  have F12 := fun_mk (st := s_read_program) l12 c12 k12
  have b12 := F12.binds (ps := ["texts"]) fun _ _ _ _ _ _ us hl => match us, hl with | [_], _ => rfl
  have R_12 : Raw K mg "read_program" s_read_program ["texts"] := ⟨f12, _, F12, PySem.W.mg_of X G a12, b12⟩
  have F13 := fun_mk (st := s_is_way) l13 c13 k13
  have b13 := F13.binds (ps := ["value"]) fun _ _ _ _ _ _ us hl => match us, hl with | [_], _ => rfl
  have R_13 : Raw K mg "is_way" s_is_way ["value"] := ⟨f13, _, F13, PySem.W.mg_of X G a13, b13⟩
  have F14 := fun_mk (st := s_is_kind) l14 c14 k14
  have b14 := F14.binds (ps := ["value"]) fun _ _ _ _ _ _ us hl => match us, hl with | [_], _ => rfl
  have R_14 : Raw K mg "is_kind" s_is_kind ["value"] := ⟨f14, _, F14, PySem.W.mg_of X G a14, b14⟩
  have F15 := fun_mk (st := s_lines_of) l15 c15 k15
  have b15 := F15.binds (ps := ["text"]) fun _ _ _ _ _ _ us hl => match us, hl with | [_], _ => rfl
  have R_15 : Raw K mg "lines_of" s_lines_of ["text"] := ⟨f15, _, F15, PySem.W.mg_of X G a15, b15⟩
  have F16 := fun_mk (st := s_barred_words) l16 c16 k16
  have b16 := F16.binds (ps := ["kind", "way"]) fun _ _ _ _ _ _ us hl => match us, hl with | [_, _], _ => rfl
  have R_16 : Raw K mg "barred_words" s_barred_words ["kind", "way"] := ⟨f16, _, F16, PySem.W.mg_of X G a16, b16⟩
  have F17 := fun_mk (st := s_barred_lines) l17 c17 k17
  have b17 := F17.binds (ps := ["kind", "way", "texts"]) fun _ _ _ _ _ _ us hl => match us, hl with | [_, _, _], _ => rfl
  have R_17 : Raw K mg "barred_lines" s_barred_lines ["kind", "way", "texts"] := ⟨f17, _, F17, PySem.W.mg_of X G a17, b17⟩
  have F18 := fun_mk (st := s_all_ways) l18 c18 k18
  have b18 := F18.binds (ps := ["program"]) fun _ _ _ _ _ _ us hl => match us, hl with | [_], _ => rfl
  have R_18 : Raw K mg "all_ways" s_all_ways ["program"] := ⟨f18, _, F18, PySem.W.mg_of X G a18, b18⟩
  have F19 := fun_mk (st := s_behind_go) l19 c19 k19
  have b19 := F19.binds (ps := ["program", "head"]) fun _ _ _ _ _ _ us hl => match us, hl with | [_, _], _ => rfl
  have R_19 : Raw K mg "behind_go" s_behind_go ["program", "head"] := ⟨f19, _, F19, PySem.W.mg_of X G a19, b19⟩
  have F20 := fun_mk (st := s_refused_on) l20 c20 k20
  have b20 := F20.binds (ps := ["kind", "program", "way"]) fun _ _ _ _ _ _ us hl => match us, hl with | [_, _, _], _ => rfl
  have R_20 : Raw K mg "refused_on" s_refused_on ["kind", "program", "way"] := ⟨f20, _, F20, PySem.W.mg_of X G a20, b20⟩
  have F21 := fun_mk (st := s_refused_lines) l21 c21 k21
  have b21 := F21.binds (ps := ["kind", "way", "texts", "program"]) fun _ _ _ _ _ _ us hl => match us, hl with | [_, _, _, _], _ => rfl
  have R_21 : Raw K mg "refused_lines" s_refused_lines ["kind", "way", "texts", "program"] := ⟨f21, _, F21, PySem.W.mg_of X G a21, b21⟩
  have F22 := fun_mk (st := s_outer_ifs) l22 c22 k22
  have b22 := F22.binds (ps := ["program"]) fun _ _ _ _ _ _ us hl => match us, hl with | [_], _ => rfl
  have R_22 : Raw K mg "outer_ifs" s_outer_ifs ["program"] := ⟨f22, _, F22, PySem.W.mg_of X G a22, b22⟩
  have F23 := fun_mk (st := s__law_bag) l23 c23 k23
  have b23 := F23.binds (ps := ["script"]) fun _ _ _ _ _ _ us hl => match us, hl with | [_], _ => rfl
  have R_23 : Raw K mg "_law_bag" s__law_bag ["script"] := ⟨f23, _, F23, PySem.W.mg_of X G a23, b23⟩
  have F24 := fun_mk (st := s__law_draw) l24 c24 k24
  have b24 := F24.binds (ps := ["bag", "limit"]) fun _ _ _ _ _ _ us hl => match us, hl with | [_, _], _ => rfl
  have R_24 : Raw K mg "_law_draw" s__law_draw ["bag", "limit"] := ⟨f24, _, F24, PySem.W.mg_of X G a24, b24⟩
  have F25 := fun_mk (st := s__law_told) l25 c25 k25
  have b25 := F25.binds (ps := ["kind", "way", "text"]) fun _ _ _ _ _ _ us hl => match us, hl with | [_, _, _], _ => rfl
  have R_25 : Raw K mg "_law_told" s__law_told ["kind", "way", "text"] := ⟨f25, _, F25, PySem.W.mg_of X G a25, b25⟩
  have F26 := fun_mk (st := s__law_lines) l26 c26 k26
  have b26 := F26.binds (ps := ["bag"]) fun _ _ _ _ _ _ us hl => match us, hl with | [_], _ => rfl
  have R_26 : Raw K mg "_law_lines" s__law_lines ["bag"] := ⟨f26, _, F26, PySem.W.mg_of X G a26, b26⟩
  have F27 := fun_mk (st := s__law_order_right) l27 c27 k27
  have b27 := F27.binds (ps := ["kind", "way"]) fun _ _ _ _ _ _ us hl => match us, hl with | [_, _], _ => rfl
  have R_27 : Raw K mg "_law_order_right" s__law_order_right ["kind", "way"] := ⟨f27, _, F27, PySem.W.mg_of X G a27, b27⟩
  have F28 := fun_mk (st := s__law_ifs_right) l28 c28 k28
  have b28 := F28.binds (ps := ["kind", "way"]) fun _ _ _ _ _ _ us hl => match us, hl with | [_, _], _ => rfl
  have R_28 : Raw K mg "_law_ifs_right" s__law_ifs_right ["kind", "way"] := ⟨f28, _, F28, PySem.W.mg_of X G a28, b28⟩
  have F29 := fun_mk (st := s__law_ways_right) l29 c29 k29
  have b29 := F29.binds (ps := ["code", "kind", "text"]) fun _ _ _ _ _ _ us hl => match us, hl with | [_, _, _], _ => rfl
  have R_29 : Raw K mg "_law_ways_right" s__law_ways_right ["code", "kind", "text"] := ⟨f29, _, F29, PySem.W.mg_of X G a29, b29⟩
  have F30 := fun_mk (st := s_law) l30 c30 k30
  obtain ⟨mf0, mp0, mn0⟩ := methB_ok mk0
  have M0 := fun_mk (st := s_Line_init) ml0 mc0 mp0
  have mb0 := M0.binds (ps := ["self", "form", "words", "test"]) fun _ _ _ _ _ _ us hl => match us, hl with | [_, _, _, _], _ => rfl
  obtain ⟨mf1, mp1, mn1⟩ := methB_ok mk1
  have M1 := fun_mk (st := s_Walk_init) ml1 mc1 mp1
  have mb1 := M1.binds (ps := ["self", "kind", "program", "way"]) fun _ _ _ _ _ _ us hl => match us, hl with | [_, _, _, _], _ => rfl
  obtain ⟨mf2, mp2, mn2⟩ := methB_ok mk2
  have M2 := fun_mk (st := s_Walk_is_behind_loops) ml2 mc2 mp2
  have mb2 := M2.binds (ps := ["self"]) fun _ _ _ _ _ _ us hl => match us, hl with | [_], _ => rfl
  obtain ⟨mf3, mp3, mn3⟩ := methB_ok mk3
  have M3 := fun_mk (st := s_Walk_may_place) ml3 mc3 mp3
  have mb3 := M3.binds (ps := ["self", "line"]) fun _ _ _ _ _ _ us hl => match us, hl with | [_, _], _ => rfl
  obtain ⟨mf4, mp4, mn4⟩ := methB_ok mk4
  have M4 := fun_mk (st := s_Walk_meet_loop) ml4 mc4 mp4
  have mb4 := M4.binds (ps := ["self", "number"]) fun _ _ _ _ _ _ us hl => match us, hl with | [_, _], _ => rfl
  obtain ⟨mf5, mp5, mn5⟩ := methB_ok mk5
  have M5 := fun_mk (st := s_Walk_meet_early_setting) ml5 mc5 mp5
  have mb5 := M5.binds (ps := ["self", "number", "line"]) fun _ _ _ _ _ _ us hl => match us, hl with | [_, _, _], _ => rfl
  obtain ⟨mf6, mp6, mn6⟩ := methB_ok mk6
  have M6 := fun_mk (st := s_Walk_meet_late_setting) ml6 mc6 mp6
  have mb6 := M6.binds (ps := ["self", "number", "line"]) fun _ _ _ _ _ _ us hl => match us, hl with | [_, _, _], _ => rfl
  obtain ⟨mf7, mp7, mn7⟩ := methB_ok mk7
  have M7 := fun_mk (st := s_Code_init) ml7 mc7 mp7
  have mb7 := M7.binds (ps := ["self", "kind", "way", "text"]) fun _ _ _ _ _ _ us hl => match us, hl with | [_, _, _, _], _ => rfl
  obtain ⟨mf8, mp8, mn8⟩ := methB_ok mk8
  have M8 := fun_mk (st := s_Code_len) ml8 mc8 mp8
  have mb8 := M8.binds (ps := ["self"]) fun _ _ _ _ _ _ us hl => match us, hl with | [_], _ => rfl
  obtain ⟨mf9, mp9, mn9⟩ := methB_ok mk9
  have M9 := fun_mk (st := s_Code_getitem) ml9 mc9 mp9
  have mb9 := M9.binds (ps := ["self", "number"]) fun _ _ _ _ _ _ us hl => match us, hl with | [_, _], _ => rfl
  obtain ⟨mf10, mp10, mn10⟩ := methB_ok mk10
  have M10 := fun_mk (st := s_Code_eq) ml10 mc10 mp10
  have mb10 := M10.binds (ps := ["self", "other"]) fun _ _ _ _ _ _ us hl => match us, hl with | [_, _], _ => rfl
  obtain ⟨mf11, mp11, mn11⟩ := methB_ok mk11
  have M11 := fun_mk (st := s_Code_in_way) ml11 mc11 mp11
  have mb11 := M11.binds (ps := ["self", "way"]) fun _ _ _ _ _ _ us hl => match us, hl with | [_, _], _ => rfl
  refine ⟨PySem.W.fnOf "law" "law" (defArgs s_law) (defBody s_law) (defScope s_law) .none fkV30 fdoc30 fpm30 fan30 fcd30 fct30, fun s v => .of_eq rfl, fun base _ _ => ?_⟩
  have dCount : Def l.prog w K mg base CX0 "is_count" 1 ["word"] spCount := ok_count R_0 TG TF
  have dFits : Def l.prog w K mg base CX0 "fits" 2 ["mark", "word"] spFits := ok_fits R_1 TF dCount
  have dFilled : Def l.prog w K mg base CX0 "filled" 3 ["form", "words"] (spFilled K) := ok_filled R_2 TG TF dFits
  have dFirst : Def l.prog w K mg base CX0 "first_filled" 4 ["forms", "words"] (spFirst K) := ok_first R_3 dFilled
  have dPart : Def l.prog w K mg base CX0 "read_part" 5 ["words"] (spPart K) := ok_part R_4 TF dFirst
  have dTest : Def l.prog w K mg base CX0 "read_test" 6 ["words"] (spTest K) := ok_test R_5 TG dPart
  have LC : LineC l.prog w K mg base C := ⟨TL, m0, _, ⟨mkL, ma0, mf0, kpL⟩, ok_lineI M0 TL, mb0⟩
  have dLine : Def l.prog w K mg base CX0 "read_line" 7 ["text", "in_loop"] (spLine K C) := ok_line R_6 TF LC dTest dFirst
  have dAround : Def l.prog w K mg base CX0 "loop_around" 1 ["lines", "opened"] (spAround K C) := ok_around R_8 TL
  have dTurn : Def l.prog w K mg base CX0 "read_turn" 3 ["word", "number", "lines", "opened"] (spTurn K C) := ok_turn R_7 TG LC
  have dLines : Def l.prog w K mg base (L2.CX l.prog w) "read_lines" 8 ["texts"] (spLines K C CL) := ok_lines (fL := fL) R_9 TG ⟨E2⟩ TL dAround dTurn dLine
  have dLand : Def l.prog w K mg base CX0 "landing" 1 ["lines", "number"] (spLand K C) := ok_land R_10 TG TL
  have dLink : Def l.prog w K mg base CX0 "link" 2 ["lines", "number"] (spLink K C) := ok_link R_11 TG TL dLand
  have dProg : Def l.prog w K mg base (L2.CX l.prog w) "read_program" 9 ["texts"] (spProg K C CL) := ok_prog R_12 TG dLines dLink
  have dKind : Def l.prog w K mg base CX0 "is_kind" 1 ["value"] (spStrIn K kindM) := ok_kind R_14 TG TC
  have dWay : Def l.prog w K mg base CX0 "is_way" 1 ["value"] (spStrIn K wayM) := ok_wayC R_13 TG TC
  have dLof : Def l.prog w K mg base CX0 "lines_of" 1 ["text"] spLinesOf := ok_linesOf R_15
  have dBarW : Def l.prog w K mg base CX0 "barred_words" 1 ["kind", "way"] spBarW := ok_barW R_16
  have dBarL : Def l.prog w K mg base CX0 "barred_lines" 2 ["kind", "way", "texts"] (spBarL K) := ok_barL R_17 TG dBarW
  have dIfs : Def l.prog w K mg base CX0 "outer_ifs" 1 ["program"] (spIfs K C) := ok_ifs R_22 TG TL
  have dWays : Def l.prog w K mg base CX0 "all_ways" 1 ["program"] (spWays K C) := ok_ways R_18 TG TL
  have dBehind : Def l.prog w K mg base CX0 "behind_go" 1 ["program", "head"] (spBehind K C) := ok_behind R_19 TG TL
  have GM := ok_may (P := l.prog) (w := w) (base := base) (C := C) M3 TC TW TL
  have WC : WalkC l.prog w K mg base C CW := ⟨TW, ⟨m1, _, ⟨mkW, ma1, mf1, kpW⟩, ok_walkI M1 TW TL, mb1⟩,
    ⟨m2, _, ⟨ma2, mf2, mp2⟩, ok_behindL M2 TG TW, mb2⟩,
    ⟨m4, _, ⟨ma4, mf4, mp4⟩, ok_mloop M4 TC TW dBehind, mb4⟩,
    ⟨m5, _, ⟨ma5, mf5, mp5⟩, ok_early M5 TW GM mb3 ⟨ma3, mf3, mp3⟩, mb5⟩,
    ⟨m6, _, ⟨ma6, mf6, mp6⟩, ok_late M6 TW TL, mb6⟩⟩
  have dRO : Def l.prog w K mg base CX0 "refused_on" 3 ["kind", "program", "way"] (spRO K C) := ok_refOn R_20 TF TL WC
  have dRL : Def l.prog w K mg base CX0 "refused_lines" 4 ["kind", "way", "texts", "program"] (spRL K C) := ok_refL R_21 dBarL dWays dRO
  have CK_ : CodeK l.prog w K mg base CC CK CY CL CM := ⟨CT, m7, _, ⟨mkC, ma7, mf7, kpC⟩, ok_codeI M7 TG TC TC_ XA dKind dWay dLof dProg dIfs dRL, mb7⟩
  have ON : OwnD l.prog w K mg base CC "__len__" 1 ["self"] (spCLen CC) := ⟨m8, _, ok_clen M8 TG CT, mb8, ma8, mf8, mn8⟩
  have OG : OwnD l.prog w K mg base CC "__getitem__" 1 ["self", "number"] (spCGet CC) := ⟨m9, _, ok_cget M9 CT, mb9, ma9, mf9, mn9⟩
  have OE : OwnD l.prog w K mg base CC "__eq__" 1 ["self", "other"] (spCEq CC) := ⟨m10, _, ok_ceq M10 TG CT, mb10, ma10, mf10, mn10⟩
  have GW : FnOk l.prog w K mg base (L2.CX l.prog w) 12 m11 _ ["self", "way"] (spInWay K CC CK CY CL CM) := ok_inway M11 CK_
  have GBg := ok_bag (P := l.prog) (w := w) (base := base) (mg := mg) F23 BT
  have GD := ok_draw (P := l.prog) (w := w) (base := base) (mg := mg) F24 BT
  have GT := ok_told (fN := fa) (fdN := PySem.W.fnOf "law" "law" (defArgs s_law) (defBody s_law) (defScope s_law) .none .none .none .none none .none .none) F25 TG CK_ XA RC ON
  have GL := ok_ll (P := l.prog) (w := w) (base := base) F26 TG GD (PySem.W.mg_of X G a24) F24.kp b24
  have GO := ok_ord F27 GT (PySem.W.mg_of X G a25) F25.kp b25
  have GR := ok_ir F28 TG GT (PySem.W.mg_of X G a25) F25.kp b25
  have GY := ok_wr F29 CK_ XA OE GW mb11 ⟨ma11, mf11, mp11⟩ yy
  exact ok_law F30 TG CK_ ON OG OE GBg (PySem.W.mg_of X G a23) F23.kp b23 GL (PySem.W.mg_of X G a26) F26.kp b26 GD (PySem.W.mg_of X G a24) F24.kp b24 GT (PySem.W.mg_of X G a25) F25.kp b25 GO (PySem.W.mg_of X G a27) F27.kp b27 GR (PySem.W.mg_of X G a28) F28.kp b28 GY (PySem.W.mg_of X G a29) F29.kp b29
theorem walk {l : PySem.W.OpenLaw} {q : Program} {loose : List Str} {XP : (Str → Option Value) → Heap → Prop} {YP : World → Heap → Prop} {d : DefRec} {K : Params → PySem.W.Frag} (hn : l.most = some 63) (hdf : d.params.defaults = [])
    (hY : ∀ (w : World) (h : Heap), YP w h → (K w.params).In h)
    (F : ∀ (w : World) (mg : Str → Option Value) (fa : Addr) (h : Heap), (K w.params).In h → h.Ns mainGlobals mg → mg d.name = some (.ref fa) →
      ∃ fd : FuncData, (∀ (s : Shared) (u : Value), BindsTo s fd ⟨[u], []⟩ [("script", u)]) ∧ ∀ base : Heap, (K w.params).In base → base.Ns mainGlobals mg → FnOk l.prog w (K w.params) mg base CX0 14 fa fd ["script"] (spLawK (K w.params))) :
    PySem.W.WalkO q loose XP YP l.row.toRowW d [] (fun f vs => PySem.call f vs) :=
  L2.walk_of (n := 63) (k := 14) (x := "script") (CX := fun _ => CX0) (sp := fun w => spLawK (K w.params)) hn (by decide) hdf ⟨rfl, by decide, by decide⟩ hY F (fun _ _ a ns hl _ hS => ⟨a, ns, rfl, hS, hl, fun _ => rfl⟩) fun _ _ _ _ _ z => z
end K40

open PySem PySem.W PyProof.Rows
set_option maxRecDepth 100000 in
set_option maxHeartbeats 0 in
theorem PySem.Challenge.cw_openrings_k01_codes_made_and_refused_holds : PySem.Challenge.rw_openrings_k01_codes_made_and_refused.Holds := by
  w_on; o_law; k_head; (case hw => w_witness2)
  k_fill
  refine K40.walk (l := PySem.Challenge.rw_openrings_k01_codes_made_and_refused) rfl rfl (fun w h Y => PySem.W.kIn_of Y) ?F
  case F =>
    intro w mg fa h KX G hmg
    refine' K40.all_mk KX G hmg ?aC0 ?xC0 ?iC0 ?lI0 ?cd0 ?ce0 ?ca0 ?hv0 ?hf0 ?ch0 ?aC1 ?xC1 ?iC1 ?lI1 ?cd1 ?ce1 ?ca1 ?hv1 ?hf1 ?ch1 ?aC2 ?xC2 ?iC2 ?lI2 ?cd2 ?ce2 ?ca2 ?hv2 ?hf2 ?ch2 ?aC3 ?xC3 ?iC3 ?lI3 ?cd3 ?ce3 ?ca3 ?hv3 ?hf3 ?ch3 ?aRE ?aCF ?rel ?op ?htop ?aC ?bC ?aCW ?bCW ?aCC ?bCC ?cod ?ma0 ?ml0 ?mc0 ?mk0 ?ma1 ?ml1 ?mc1 ?mk1 ?ma2 ?ml2 ?mc2 ?mk2 ?ma3 ?ml3 ?mc3 ?mk3 ?ma4 ?ml4 ?mc4 ?mk4 ?ma5 ?ml5 ?mc5 ?mk5 ?ma6 ?ml6 ?mc6 ?mk6 ?ma7 ?ml7 ?mc7 ?mk7 ?ma8 ?ml8 ?mc8 ?mk8 ?ma9 ?ml9 ?mc9 ?mk9 ?ma10 ?ml10 ?mc10 ?mk10 ?ma11 ?ml11 ?mc11 ?mk11 ?aP_ ?lP ?kl ?sP ?pB ?ta0 ?tb0 ?ta1 ?tb1 ?ta2 ?tb2 ?ta3 ?tb3 ?ta4 ?tb4 ?ta5 ?tb5 ?ta6 ?tb6 ?ta7 ?tb7 ?ia0 ?ia1 ?ia2 ?ia3 ?ia4 ?ia5 ?a0 ?l0 ?c0 ?k0 ?a1 ?l1 ?c1 ?k1 ?a2 ?l2 ?c2 ?k2 ?a3 ?l3 ?c3 ?k3 ?a4 ?l4 ?c4 ?k4 ?a5 ?l5 ?c5 ?k5 ?a6 ?l6 ?c6 ?k6 ?a7 ?l7 ?c7 ?k7 ?a8 ?l8 ?c8 ?k8 ?a9 ?l9 ?c9 ?k9 ?a10 ?l10 ?c10 ?k10 ?a11 ?l11 ?c11 ?k11 ?a12 ?l12 ?c12 ?k12 ?a13 ?l13 ?c13 ?k13 ?a14 ?l14 ?c14 ?k14 ?a15 ?l15 ?c15 ?k15 ?a16 ?l16 ?c16 ?k16 ?a17 ?l17 ?c17 ?k17 ?a18 ?l18 ?c18 ?k18 ?a19 ?l19 ?c19 ?k19 ?a20 ?l20 ?c20 ?k20 ?a21 ?l21 ?c21 ?k21 ?a22 ?l22 ?c22 ?k22 ?a23 ?l23 ?c23 ?k23 ?a24 ?l24 ?c24 ?k24 ?a25 ?l25 ?c25 ?k25 ?a26 ?l26 ?c26 ?k26 ?a27 ?l27 ?c27 ?k27 ?a28 ?l28 ?c28 ?k28 ?a29 ?l29 ?c29 ?k29 ?a30 ?l30 ?c30 ?k30 ?z0 ?z1 ?z2 ?z3 ?z4 ?z5 ?z6 ?z7 ?z8 ?z9 ?z10 ?z11 ?z12 ?z13
    (case aC0 => k_is)
    (case xC0 => k_is)
    (case iC0 => k_is)
    (case lI0 => k_is)
    (case cd0 => k_is)
    (case ce0 => k_is)
    (case ca0 => k_is)
    (case hv0 => rfl)
    (case hf0 => rfl)
    (case ch0 => kernel_rfl)
    (case aC1 => k_is)
    (case xC1 => k_is)
    (case iC1 => k_is)
    (case lI1 => k_is)
    (case cd1 => k_is)
    (case ce1 => k_is)
    (case ca1 => k_is)
    (case hv1 => rfl)
    (case hf1 => rfl)
    (case ch1 => kernel_rfl)
    (case aC2 => k_is)
    (case xC2 => k_is)
    (case iC2 => k_is)
    (case lI2 => k_is)
    (case cd2 => k_is)
    (case ce2 => k_is)
    (case ca2 => k_is)
    (case hv2 => rfl)
    (case hf2 => rfl)
    (case ch2 => kernel_rfl)
    (case aC3 => k_is)
    (case xC3 => k_is)
    (case iC3 => k_is)
    (case lI3 => k_is)
    (case cd3 => k_is)
    (case ce3 => k_is)
    (case ca3 => k_is)
    (case hv3 => rfl)
    (case hf3 => rfl)
    (case ch3 => kernel_rfl)
    (case aRE => k_is)
    (case aCF => k_is)
    (case rel => kernel_rfl)
    (case op => k_is)
    (case htop => rfl)
    (case aC => k_is)
    (case bC => kernel_rfl)
    (case aCW => k_is)
    (case bCW => kernel_rfl)
    (case aCC => k_is)
    (case bCC => kernel_rfl)
    (case cod => kernel_rfl)
    (case ma0 => k_is)
    (case ml0 => k_is)
    (case mc0 => k_is)
    (case mk0 => kernel_rfl)
    (case ma1 => k_is)
    (case ml1 => k_is)
    (case mc1 => k_is)
    (case mk1 => kernel_rfl)
    (case ma2 => k_is)
    (case ml2 => k_is)
    (case mc2 => k_is)
    (case mk2 => kernel_rfl)
    (case ma3 => k_is)
    (case ml3 => k_is)
    (case mc3 => k_is)
    (case mk3 => kernel_rfl)
    (case ma4 => k_is)
    (case ml4 => k_is)
    (case mc4 => k_is)
    (case mk4 => kernel_rfl)
    (case ma5 => k_is)
    (case ml5 => k_is)
    (case mc5 => k_is)
    (case mk5 => kernel_rfl)
    (case ma6 => k_is)
    (case ml6 => k_is)
    (case mc6 => k_is)
    (case mk6 => kernel_rfl)
    (case ma7 => k_is)
    (case ml7 => k_is)
    (case mc7 => k_is)
    (case mk7 => kernel_rfl)
    (case ma8 => k_is)
    (case ml8 => k_is)
    (case mc8 => k_is)
    (case mk8 => kernel_rfl)
    (case ma9 => k_is)
    (case ml9 => k_is)
    (case mc9 => k_is)
    (case mk9 => kernel_rfl)
    (case ma10 => k_is)
    (case ml10 => k_is)
    (case mc10 => k_is)
    (case mk10 => kernel_rfl)
    (case ma11 => k_is)
    (case ml11 => k_is)
    (case mc11 => k_is)
    (case mk11 => kernel_rfl)
    (case aP_ => k_is)
    (case lP => k_is)
    (case kl => exact K40.kl_cons (K40.kl_cons (K40.kl_cons (K40.kl_cons (K40.kl_cons (K40.kl_cons (K40.kl_cons (K40.kl_cons K40.kl_nil))))))))
    (case sP => kernel_rfl)
    (case pB => kernel_rfl)
    (case ta0 => k_is)
    (case tb0 => kernel_rfl)
    (case ta1 => k_is)
    (case tb1 => kernel_rfl)
    (case ta2 => k_is)
    (case tb2 => kernel_rfl)
    (case ta3 => k_is)
    (case tb3 => kernel_rfl)
    (case ta4 => k_is)
    (case tb4 => kernel_rfl)
    (case ta5 => k_is)
    (case tb5 => kernel_rfl)
    (case ta6 => k_is)
    (case tb6 => kernel_rfl)
    (case ta7 => k_is)
    (case tb7 => kernel_rfl)
    (case ia0 => k_is)
    (case ia1 => k_is)
    (case ia2 => k_is)
    (case ia3 => k_is)
    (case ia4 => k_is)
    (case ia5 => k_is)
    (case a0 => k_is)
    (case l0 => k_is)
    (case c0 => k_is)
    (case k0 => k_is)
    (case a1 => k_is)
    (case l1 => k_is)
    (case c1 => k_is)
    (case k1 => k_is)
    (case a2 => k_is)
    (case l2 => k_is)
    (case c2 => k_is)
    (case k2 => k_is)
    (case a3 => k_is)
    (case l3 => k_is)
    (case c3 => k_is)
    (case k3 => k_is)
    (case a4 => k_is)
    (case l4 => k_is)
    (case c4 => k_is)
    (case k4 => k_is)
    (case a5 => k_is)
    (case l5 => k_is)
    (case c5 => k_is)
    (case k5 => k_is)
    (case a6 => k_is)
    (case l6 => k_is)
    (case c6 => k_is)
    (case k6 => k_is)
    (case a7 => k_is)
    (case l7 => k_is)
    (case c7 => k_is)
    (case k7 => k_is)
    (case a8 => k_is)
    (case l8 => k_is)
    (case c8 => k_is)
    (case k8 => k_is)
    (case a9 => k_is)
    (case l9 => k_is)
    (case c9 => k_is)
    (case k9 => k_is)
    (case a10 => k_is)
    (case l10 => k_is)
    (case c10 => k_is)
    (case k10 => k_is)
    (case a11 => k_is)
    (case l11 => k_is)
    (case c11 => k_is)
    (case k11 => k_is)
    (case a12 => k_is)
    (case l12 => k_is)
    (case c12 => k_is)
    (case k12 => k_is)
    (case a13 => k_is)
    (case l13 => k_is)
    (case c13 => k_is)
    (case k13 => k_is)
    (case a14 => k_is)
    (case l14 => k_is)
    (case c14 => k_is)
    (case k14 => k_is)
    (case a15 => k_is)
    (case l15 => k_is)
    (case c15 => k_is)
    (case k15 => k_is)
    (case a16 => k_is)
    (case l16 => k_is)
    (case c16 => k_is)
    (case k16 => k_is)
    (case a17 => k_is)
    (case l17 => k_is)
    (case c17 => k_is)
    (case k17 => k_is)
    (case a18 => k_is)
    (case l18 => k_is)
    (case c18 => k_is)
    (case k18 => k_is)
    (case a19 => k_is)
    (case l19 => k_is)
    (case c19 => k_is)
    (case k19 => k_is)
    (case a20 => k_is)
    (case l20 => k_is)
    (case c20 => k_is)
    (case k20 => k_is)
    (case a21 => k_is)
    (case l21 => k_is)
    (case c21 => k_is)
    (case k21 => k_is)
    (case a22 => k_is)
    (case l22 => k_is)
    (case c22 => k_is)
    (case k22 => k_is)
    (case a23 => k_is)
    (case l23 => k_is)
    (case c23 => k_is)
    (case k23 => k_is)
    (case a24 => k_is)
    (case l24 => k_is)
    (case c24 => k_is)
    (case k24 => k_is)
    (case a25 => k_is)
    (case l25 => k_is)
    (case c25 => k_is)
    (case k25 => k_is)
    (case a26 => k_is)
    (case l26 => k_is)
    (case c26 => k_is)
    (case k26 => k_is)
    (case a27 => k_is)
    (case l27 => k_is)
    (case c27 => k_is)
    (case k27 => k_is)
    (case a28 => k_is)
    (case l28 => k_is)
    (case c28 => k_is)
    (case k28 => k_is)
    (case a29 => k_is)
    (case l29 => k_is)
    (case c29 => k_is)
    (case k29 => k_is)
    (case a30 => k_is)
    (case l30 => k_is)
    (case c30 => k_is)
    (case k30 => k_is)
    (case z0 => k_is)
    (case z1 => k_is)
    (case z2 => k_is)
    (case z3 => k_is)
    (case z4 => k_is)
    (case z5 => k_is)
    (case z6 => k_is)
    (case z7 => k_is)
    (case z8 => k_is)
    (case z9 => k_is)
    (case z10 => k_is)
    (case z11 => k_is)
    (case z12 => k_is)
    (case z13 => k_is)

