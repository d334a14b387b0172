import PyProof.Rows.All
import Wide.All
import OpenK.AllK
import Wide.FinOn
import PySem.Challenge.RW_openrings_k07_cases_refused
import HandS.ForMost
import KE.KExcPX
import KE.KSuper
import HandS.Words
import HandS.ExcField
import HandS.Head0
import HandS.Head1
import HandS.Head2
import HandS.HeadEnd
import HandS.HeadHook1
import HandS.HeadHook2
import PyProof.EqAt
import PyProof.EqKinds
import PyProof.TupleCall
import KE.KFromBytes
import KE.KExcSuper
import HandS.Base
import HandS.Call
import HandS.Exc
import HandS.ExcInit
import HandS.ForExc
import HandS.ExcIs
import HandS.IsInst
import KE.KExcIs
import PyProof.P3Statements
import PyProof.Lay0
import HandS.Wide
import HandS.Style
import HandS.Zip
import HandS.TupSets
import HandS.TupAny
import KE.GoesEnumKw
import HandS.WrittenGet
import KE.KDictZip
import PyProof.ListNew
import HandS.Conv
import PyProof.StrLawsChain
import PyProof.Rows.StrItems
import KE.KDictCopyH
import HandS.Text
import KE.DataFind
import HandS.Deep
import HandS.DictComp
import HandS.More
set_option Elab.async false
set_option linter.all false
set_option maxRecDepth 100000
set_option maxHeartbeats 4000000
namespace K40
open PySem PySem.Spec PyProof.Rows L2
def top (i : Nat) : Stmt := PySem.Challenge.pw_openrings_k07_cases_refused.main.body.getD i (.Pass ⟨0, 0, 0, 0⟩)
abbrev s__wall : Stmt := top 0
abbrev c_RingError : Stmt := top 2
abbrev c_BadKind : Stmt := top 3
abbrev s_BadKind_init : Stmt := inClass (top 3) 0
abbrev c_BadWay : Stmt := top 4
abbrev s_BadWay_init : Stmt := inClass (top 4) 0
abbrev c_BadLine : Stmt := top 5
abbrev s_BadLine_init : Stmt := inClass (top 5) 0
abbrev c_Refused : Stmt := top 6
abbrev s_Refused_init : Stmt := inClass (top 6) 0
abbrev c_BadRing : Stmt := top 7
abbrev s_BadRing_init : Stmt := inClass (top 7) 0
abbrev c_BadHanded : Stmt := top 8
abbrev s_BadHanded_init : Stmt := inClass (top 8) 0
abbrev c_TooMany : Stmt := top 9
abbrev s_TooMany_init : Stmt := inClass (top 9) 0
abbrev s_is_whole : Stmt := top 13
abbrev s_is_pair : Stmt := top 14
abbrev s_is_item : Stmt := top 15
abbrev s_is_row : Stmt := top 16
abbrev s_keys_differ : Stmt := top 17
abbrev s_items_of : Stmt := top 18
abbrev s_is_ring : Stmt := top 19
abbrev s_is_way : Stmt := top 20
abbrev s_check_ring : Stmt := top 21
abbrev s_check_way : Stmt := top 22
abbrev s_home : Stmt := top 23
abbrev s_distance : Stmt := top 24
abbrev s_gap : Stmt := top 25
abbrev s_runs : Stmt := top 26
abbrev s_all_items : Stmt := top 27
abbrev s_is_reached : Stmt := top 28
abbrev s_is_in_order : Stmt := top 29
abbrev s_is_lawful : Stmt := top 30
abbrev c_State : Stmt := top 35
abbrev s_State_init : Stmt := inClass (top 35) 0
abbrev s_State_is_item_at : Stmt := inClass (top 35) 1
abbrev s_row_holds : Stmt := top 36
abbrev s_row_named : Stmt := top 37
abbrev s_is_less : Stmt := top 38
abbrev s_compare : Stmt := top 39
abbrev s_ask : Stmt := top 40
abbrev s_holds : Stmt := top 41
abbrev s_set_register : Stmt := top 42
abbrev s_step : Stmt := top 43
abbrev s_copy_row : Stmt := top 44
abbrev s_fill : Stmt := top 45
abbrev s_move_item : Stmt := top 46
abbrev s_do_line : Stmt := top 47
abbrev s_station : Stmt := top 48
abbrev s_meet_head : Stmt := top 49
abbrev s_play_lines : Stmt := top 50
abbrev s_owed_items : Stmt := top 51
abbrev s_leaves_owed : Stmt := top 52
abbrev s_owed_row : Stmt := top 53
abbrev s_is_steady : Stmt := top 54
abbrev s_broken_promises : Stmt := top 55
abbrev c_Play : Stmt := top 56
abbrev s_Play_init : Stmt := inClass (top 56) 0
abbrev s_Play_lines : Stmt := inClass (top 56) 1
abbrev s_Play_sides : Stmt := inClass (top 56) 2
abbrev s_Play_stations : Stmt := inClass (top 56) 3
abbrev s_can_be_played : Stmt := top 57
abbrev s_can_be_handed : Stmt := top 58
abbrev s_play : Stmt := top 59
abbrev c_Line : Stmt := top 67
abbrev s_Line_init : Stmt := inClass (top 67) 0
abbrev s_is_count : Stmt := top 68
abbrev s_fits : Stmt := top 69
abbrev s_filled : Stmt := top 70
abbrev s_first_filled : Stmt := top 71
abbrev s_read_part : Stmt := top 72
abbrev s_read_test : Stmt := top 73
abbrev s_read_line : Stmt := top 74
abbrev s_read_turn : Stmt := top 75
abbrev s_loop_around : Stmt := top 76
abbrev s_read_lines : Stmt := top 77
abbrev s_landing : Stmt := top 78
abbrev s_link : Stmt := top 79
abbrev s_read_program : Stmt := top 80
abbrev s_is_kind : Stmt := top 90
abbrev s_lines_of : Stmt := top 91
abbrev s_barred_words : Stmt := top 92
abbrev s_barred_lines : Stmt := top 93
abbrev s_all_ways : Stmt := top 94
abbrev s_behind_go : Stmt := top 95
abbrev c_Walk : Stmt := top 96
abbrev s_Walk_init : Stmt := inClass (top 96) 0
abbrev s_Walk_is_behind_loops : Stmt := inClass (top 96) 1
abbrev s_Walk_refuse_next_loop : Stmt := inClass (top 96) 2
abbrev s_Walk_may_place : Stmt := inClass (top 96) 3
abbrev s_Walk_may_step_from : Stmt := inClass (top 96) 4
abbrev s_Walk_meet_loop : Stmt := inClass (top 96) 5
abbrev s_Walk_meet_early_setting : Stmt := inClass (top 96) 6
abbrev s_Walk_meet_late_setting : Stmt := inClass (top 96) 7
abbrev s_Walk_count_next : Stmt := inClass (top 96) 8
abbrev s_Walk_count_write : Stmt := inClass (top 96) 9
abbrev s_refused_on : Stmt := top 97
abbrev s_refused_lines : Stmt := top 98
abbrev s_outer_ifs : Stmt := top 99
abbrev c_Code : Stmt := top 100
abbrev s_Code_init : Stmt := inClass (top 100) 0
abbrev s_Code_len : Stmt := inClass (top 100) 1
abbrev s_Code_getitem : Stmt := inClass (top 100) 2
abbrev s_Code_iter : Stmt := inClass (top 100) 3
abbrev s_Code_eq : Stmt := inClass (top 100) 4
abbrev s_Code_in_way : Stmt := inClass (top 100) 5
abbrev s__law_bag : Stmt := top 102
abbrev s__law_draw : Stmt := top 103
abbrev s__law_ring : Stmt := top 104
abbrev s__law_thing : Stmt := top 105
abbrev s__law_told : Stmt := top 106
abbrev s__law_odd_ring : Stmt := top 107
abbrev s__law_bad_handed : Stmt := top 108
abbrev s_law : Stmt := top 109
end K40

/-! ## What the top has written, looked at by one run -/
namespace K40
open PySem PySem.Spec PyProof.Rows L2
abbrev PLh : List (Str × List Str) := [("S", ["at", "hole", "low", "top"]), ("R", ["at", "hole", "low", "top", "out"]), ("H", ["hole", "low", "top", "out"]), ("V", ["at", "hole", "low", "top", "first", "none"]), ("N", ["at", "hole", "low", "top", "out", "first", "none"]), ("X", ["at", "hole", "low", "top", "first", "home", "hand"]), ("Q", ["empty", "stone", "item", "key"]), ("C", ["<", "<="])]
/-- texts one by one -/
def valsB : List Value → List Str → Bool
  | [], [] => true
  | .str x _ :: r, y :: s => decide (x = y) && valsB r s
  | _, _ => false
/-- a written tuple of texts -/
def strTupB (K : PySem.W.Frag) (a : Addr) (ws : List Str) : Bool := match K.lookup a with
  | some o => decide (o.cls = .type "tuple") && (match o.data with | .seq its _ => decide (its.size ≤ sizeLine) && valsB its.toList ws | _ => false)
  | none => false
/-- a written tuple of pairs of texts -/
def pairsB (K : PySem.W.Frag) : List Value → List (Str × Str) → Bool
  | [], [] => true
  | .ref a :: r, p :: s => strTupB K a [p.1, p.2] && pairsB K r s
  | _, _ => false
def formsB (K : PySem.W.Frag) (a : Addr) (fs : List (Str × Str)) : Bool := match K.lookup a with
  | some o => decide (o.cls = .type "tuple") && (match o.data with | .seq its _ => decide (its.size ≤ sizeLine) && pairsB K its.toList fs | _ => false)
  | none => false
/-- the dict of places -/
def placesB (K : PySem.W.Frag) : List DictEntry → List (Str × List Str) → Bool
  | [], [] => true
  | e :: r, p :: s => (match e.key, e.val with | .str x _, .ref b => decide (x = p.1) && strTupB K b p.2 | _, _ => false) && placesB K r s
  | _, _ => false
/-- a class of the top that is plain -/
def clsB (K : PySem.W.Frag) (C : Addr) (fs : List Str) : Bool :=
  PySem.W.plainGet K C Str.empty && (PySem.W.hasDictIn K C && (PySem.W.plainOver K C && (decide (PySem.W.findIn K (.ref C) "__setattr__" = some (some (.builtin "object.__setattr__"))) && (PySem.W.makesIn K C && (PySem.W.keepIn K (.ref C) && fs.all fun f => decide (PySem.W.findIn K (.ref C) f = some none))))))
/-! ### what stands behind the top, looked at by one run -/
/-- the text of a function object -/
abbrev FT : Type := Option (Str × Str × Arguments × FuncBody × Scope × Addr × List Str × Value × Addr)
def ftOf (K : PySem.W.Frag) (f : Addr) : FT := match K.lookup f with
  | some ⟨_, _, .func fd, _⟩ => some (fd.name, fd.qualname, fd.params, fd.body, fd.scope, fd.globals, fd.closure.map (·.1), fd.defaults, fd.builtins)
  | _ => none
/-- a def: where it stands, its names, its text, the cells that it closes over -/
structure DT where
  at_ : Str × Option Str
  name : Str
  qual : Str
  st : Stmt
  cl : List Str
def DT.val (d : DT) : FT := some (d.name, d.qual, defArgs d.st, .stmts (defBody d.st), defScope d.st, mainGlobals, d.cl, .none, builtinsNs)
def DT.ok (K : PySem.W.Frag) (d : DT) : Bool := PySem.W.keepIn K (.ref (He.fAd K d.at_)) && (match K.lookup (He.fAd K d.at_) with
  | some ⟨_, _, .func fd, _⟩ => PySem.W.codeIn K fd.code d.qual
  | _ => false)
/-- an error of the text -/
def exFnB (file : Str) (K : PySem.W.Frag) (C : Addr) : Bool := match K.lookup (He.ma K C "__init__") with
  | some ⟨_, _, .func fd, _⟩ => (match fd.code with
    | .ref cda => (match K.lookup cda with
      | some ⟨_, _, .fields vs, _⟩ => (match (vs[2]? : Option Value) with
        | some (Value.str f _) => file == f
        | _ => false)
      | _ => false)
    | _ => false) && (match fd.closure with
    | [(_, cc)] => (match K.lookup cc with
      | some ⟨_, _, .cell (some (.ref D)), _⟩ => decide (D = C)
      | _ => false)
    | _ => false)
  | _ => false
def exClB (K : PySem.W.Frag) (C : Addr) : Bool := match K.lookup C with
  | some ⟨.type t, _, .cls cd, sl⟩ => decide (t = "type") && (cd.hasDict && (!cd.hasDel && ((match cd.mro with
    | .ref D :: bm => decide (D = C) && PySem.HandSPX.refsVE bm
    | _ => false) && (match sl.toList with
    | [_, _, _, _, some (.builtin n), _] => decide (n = "ValueError.__new__")
    | _ => false))))
  | _ => false
/-- the dict of places, its hashes -/
def plB (K : PySem.W.Frag) : Bool := match K.lookup (He.ga K "PLACES") with
  | some ⟨.type t, none, .dict es _, sl⟩ => decide (t = "dict") && (sl.toList.isEmpty && (!(He.ga K "PLACES" == sysModules) && placesB K es.toList PLh))
  | _ => false
def plHs (K : PySem.W.Frag) : List Int := match K.lookup (He.ga K "PLACES") with
  | some ⟨_, _, .dict es _, _⟩ => es.toList.map (·.hash)
  | _ => []
/-- the heap's part that is looked at, and what is seen there -/
abbrev AlH : Type := Bool × List FT × List Int
def obsH (ch : List (PySem.W.Frag → Bool)) (ts : List DT) (K : PySem.W.Frag) : AlH := ((ch.all fun f => f K) && ts.all fun d => d.ok K, ts.map (fun d => ftOf K (He.fAd K d.at_)), plHs K)
def valH (ts : List DT) (w : World) : AlH := (true, ts.map DT.val, PLh.map fun p => PyData.keyHash w.params p.1)
def hookH (as : List Addr) (ch : List (PySem.W.Frag → Bool)) (ts : List DT) : PySem.W.Hook where
  α := AlH
  obs := fun s => obsH ch ts (He.frG s.heap.get? as)
  val := fun w => valH ts w
  says := fun w h => ∃ K : PySem.W.Frag, K.In h ∧ obsH ch ts K = valH ts w
  of := fun _ _ e => ⟨_, He.frG_in, e⟩
  keeps := fun _ _ _ ⟨K, hK, c⟩ k => ⟨K, PySem.W.Frag.In.keeps hK k, c⟩
theorem obsH_eq {as : List Addr} {ch : List (PySem.W.Frag → Bool)} {ts : List DT} {g : Addr → Option Obj} {s : Shared} (h : ∀ a, g a = s.heap.get? a) : obsH ch ts (He.frG g as) = (hookH as ch ts).obs s := by
  have e : g = s.heap.get? := funext h
  rw [e] <;> rfl
def exB7 (K : PySem.W.Frag) (C fI : Addr) (fs : List Str) : Bool :=
  decide (PySem.W.findIn K (.ref C) "__setattr__" = some (some (.builtin "object.__setattr__"))) && (xfB K C && (fs.all (fun f => decide (PySem.W.findIn K (.ref C) f = some none)) &&
    (decide (PySem.W.findIn K (.ref C) "__init__" = some (some (.ref fI))) && (decide (PySem.W.typeIn K (.ref fI) = some (.type "function")) && (PySem.W.keepIn K (.ref C) && (decide (PySem.W.typeIn K (.ref C) = some (.type "type")) &&
      (decide (PySem.W.ks_superIn K C C "__init__" = some (some (.builtin "ValueError.__init__"))) && (decide (PySem.W.subIn K (.ref C) (.type "ValueError") = some true) && (decide (PySem.W.mroIn K C (.ref C) = some true) &&
        (decide (PySem.W.findIn K (.ref C) "__class__" = some (some (.builtin "object.__class__"))) && decide (PySem.W.mroIn K C (.type "object") = some true)))))))))))
section
variable {ch : List (PySem.W.Frag → Bool)} {ts : List DT} {K : PySem.W.Frag} {w : World}
theorem sees_chk (c : obsH ch ts K = valH ts w) (i : Nat) {f : PySem.W.Frag → Bool} (h : ch[i]? = some f) : f K = true :=
  List.all_eq_true.mp (Bool.and_eq_true_iff.mp (show ((ch.all fun f => f K) && ts.all fun d => d.ok K) = true from congrArg (fun z : AlH => z.1) c)).1 f (List.mem_of_getElem? h)
theorem sees_ok (c : obsH ch ts K = valH ts w) (i : Nat) {d : DT} (h : ts[i]? = some d) : d.ok K = true :=
  List.all_eq_true.mp (Bool.and_eq_true_iff.mp (show ((ch.all fun f => f K) && ts.all fun d => d.ok K) = true from congrArg (fun z : AlH => z.1) c)).2 d (List.mem_of_getElem? h)
theorem sees_ft (c : obsH ch ts K = valH ts w) (i : Nat) {d : DT} (h : ts[i]? = some d) : ftOf K (He.fAd K d.at_) = d.val := by
  have e : ts.map (fun d => ftOf K (He.fAd K d.at_)) = ts.map DT.val := congrArg (fun z : AlH => z.2.1) c
  have e2 : (ts.map fun d => ftOf K (He.fAd K d.at_))[i]? = (ts.map DT.val)[i]? := by rw [e]
  rw [List.getElem?_map, List.getElem?_map, h] at e2
  exact Option.some.inj e2
theorem sees_pl (c : obsH ch ts K = valH ts w) : plHs K = PLh.map fun p => PyData.keyHash w.params p.1 := congrArg (fun z : AlH => z.2.2) c
end
end K40

namespace K40
open PySem PySem.Spec PyProof.Rows L2
abbrev P7 : Program := PySem.Challenge.rw_openrings_k07_cases_refused.prog
def dt0 : DT := ⟨("is_whole", none), "is_whole", "is_whole", s_is_whole, []⟩
def dt1 : DT := ⟨("is_pair", none), "is_pair", "is_pair", s_is_pair, []⟩
def dt2 : DT := ⟨("is_item", none), "is_item", "is_item", s_is_item, []⟩
def dt3 : DT := ⟨("is_row", none), "is_row", "is_row", s_is_row, []⟩
def dt4 : DT := ⟨("keys_differ", none), "keys_differ", "keys_differ", s_keys_differ, []⟩
def dt5 : DT := ⟨("items_of", none), "items_of", "items_of", s_items_of, []⟩
def dt6 : DT := ⟨("is_ring", none), "is_ring", "is_ring", s_is_ring, []⟩
def dt7 : DT := ⟨("is_way", none), "is_way", "is_way", s_is_way, []⟩
def dt8 : DT := ⟨("check_ring", none), "check_ring", "check_ring", s_check_ring, []⟩
def dt9 : DT := ⟨("check_way", none), "check_way", "check_way", s_check_way, []⟩
def dt10 : DT := ⟨("home", none), "home", "home", s_home, []⟩
def dt11 : DT := ⟨("distance", none), "distance", "distance", s_distance, []⟩
def dt12 : DT := ⟨("gap", none), "gap", "gap", s_gap, []⟩
def dt13 : DT := ⟨("runs", none), "runs", "runs", s_runs, []⟩
def dt14 : DT := ⟨("all_items", none), "all_items", "all_items", s_all_items, []⟩
def dt15 : DT := ⟨("is_reached", none), "is_reached", "is_reached", s_is_reached, []⟩
def dt16 : DT := ⟨("is_in_order", none), "is_in_order", "is_in_order", s_is_in_order, []⟩
def dt17 : DT := ⟨("is_lawful", none), "is_lawful", "is_lawful", s_is_lawful, []⟩
def dt18 : DT := ⟨("set_register", none), "set_register", "set_register", s_set_register, []⟩
def dt19 : DT := ⟨("do_line", none), "do_line", "do_line", s_do_line, []⟩
def dt20 : DT := ⟨("play_lines", none), "play_lines", "play_lines", s_play_lines, []⟩
def dt21 : DT := ⟨("owed_items", none), "owed_items", "owed_items", s_owed_items, []⟩
def dt22 : DT := ⟨("leaves_owed", none), "leaves_owed", "leaves_owed", s_leaves_owed, []⟩
def dt23 : DT := ⟨("owed_row", none), "owed_row", "owed_row", s_owed_row, []⟩
def dt24 : DT := ⟨("is_steady", none), "is_steady", "is_steady", s_is_steady, []⟩
def dt25 : DT := ⟨("broken_promises", none), "broken_promises", "broken_promises", s_broken_promises, []⟩
def dt26 : DT := ⟨("can_be_played", none), "can_be_played", "can_be_played", s_can_be_played, []⟩
def dt27 : DT := ⟨("can_be_handed", none), "can_be_handed", "can_be_handed", s_can_be_handed, []⟩
def dt28 : DT := ⟨("play", none), "play", "play", s_play, []⟩
def dt29 : DT := ⟨("is_count", none), "is_count", "is_count", s_is_count, []⟩
def dt30 : DT := ⟨("fits", none), "fits", "fits", s_fits, []⟩
def dt31 : DT := ⟨("filled", none), "filled", "filled", s_filled, []⟩
def dt32 : DT := ⟨("first_filled", none), "first_filled", "first_filled", s_first_filled, []⟩
def dt33 : DT := ⟨("read_part", none), "read_part", "read_part", s_read_part, []⟩
def dt34 : DT := ⟨("read_test", none), "read_test", "read_test", s_read_test, []⟩
def dt35 : DT := ⟨("read_line", none), "read_line", "read_line", s_read_line, []⟩
def dt36 : DT := ⟨("read_turn", none), "read_turn", "read_turn", s_read_turn, []⟩
def dt37 : DT := ⟨("loop_around", none), "loop_around", "loop_around", s_loop_around, []⟩
def dt38 : DT := ⟨("read_lines", none), "read_lines", "read_lines", s_read_lines, []⟩
def dt39 : DT := ⟨("landing", none), "landing", "landing", s_landing, []⟩
def dt40 : DT := ⟨("link", none), "link", "link", s_link, []⟩
def dt41 : DT := ⟨("read_program", none), "read_program", "read_program", s_read_program, []⟩
def dt42 : DT := ⟨("is_kind", none), "is_kind", "is_kind", s_is_kind, []⟩
def dt43 : DT := ⟨("lines_of", none), "lines_of", "lines_of", s_lines_of, []⟩
def dt44 : DT := ⟨("barred_words", none), "barred_words", "barred_words", s_barred_words, []⟩
def dt45 : DT := ⟨("barred_lines", none), "barred_lines", "barred_lines", s_barred_lines, []⟩
def dt46 : DT := ⟨("all_ways", none), "all_ways", "all_ways", s_all_ways, []⟩
def dt47 : DT := ⟨("behind_go", none), "behind_go", "behind_go", s_behind_go, []⟩
def dt48 : DT := ⟨("refused_on", none), "refused_on", "refused_on", s_refused_on, []⟩
def dt49 : DT := ⟨("refused_lines", none), "refused_lines", "refused_lines", s_refused_lines, []⟩
def dt50 : DT := ⟨("outer_ifs", none), "outer_ifs", "outer_ifs", s_outer_ifs, []⟩
def dt51 : DT := ⟨("_law_bag", none), "_law_bag", "_law_bag", s__law_bag, []⟩
def dt52 : DT := ⟨("_law_draw", none), "_law_draw", "_law_draw", s__law_draw, []⟩
def dt53 : DT := ⟨("_law_ring", none), "_law_ring", "_law_ring", s__law_ring, []⟩
def dt54 : DT := ⟨("_law_thing", none), "_law_thing", "_law_thing", s__law_thing, []⟩
def dt55 : DT := ⟨("_law_told", none), "_law_told", "_law_told", s__law_told, []⟩
def dt56 : DT := ⟨("_law_odd_ring", none), "_law_odd_ring", "_law_odd_ring", s__law_odd_ring, []⟩
def dt57 : DT := ⟨("_law_bad_handed", none), "_law_bad_handed", "_law_bad_handed", s__law_bad_handed, []⟩
def dt58 : DT := ⟨("law", none), "law", "law", s_law, []⟩
def dt59 : DT := ⟨("Line", some "__init__"), "__init__", "Line.__init__", s_Line_init, []⟩
def dt60 : DT := ⟨("Walk", some "__init__"), "__init__", "Walk.__init__", s_Walk_init, []⟩
def dt61 : DT := ⟨("Walk", some "is_behind_loops"), "is_behind_loops", "Walk.is_behind_loops", s_Walk_is_behind_loops, []⟩
def dt62 : DT := ⟨("Walk", some "may_place"), "may_place", "Walk.may_place", s_Walk_may_place, []⟩
def dt63 : DT := ⟨("Walk", some "meet_loop"), "meet_loop", "Walk.meet_loop", s_Walk_meet_loop, []⟩
def dt64 : DT := ⟨("Walk", some "meet_early_setting"), "meet_early_setting", "Walk.meet_early_setting", s_Walk_meet_early_setting, []⟩
def dt65 : DT := ⟨("Walk", some "meet_late_setting"), "meet_late_setting", "Walk.meet_late_setting", s_Walk_meet_late_setting, []⟩
def dt66 : DT := ⟨("Code", some "__init__"), "__init__", "Code.__init__", s_Code_init, []⟩
def dt67 : DT := ⟨("State", some "__init__"), "__init__", "State.__init__", s_State_init, []⟩
def dt68 : DT := ⟨("Play", some "__init__"), "__init__", "Play.__init__", s_Play_init, []⟩
def dt69 : DT := ⟨("BadKind", some "__init__"), "__init__", "BadKind.__init__", s_BadKind_init, ["__class__"]⟩
def dt70 : DT := ⟨("BadWay", some "__init__"), "__init__", "BadWay.__init__", s_BadWay_init, ["__class__"]⟩
def dt71 : DT := ⟨("BadLine", some "__init__"), "__init__", "BadLine.__init__", s_BadLine_init, ["__class__"]⟩
def dt72 : DT := ⟨("TooMany", some "__init__"), "__init__", "TooMany.__init__", s_TooMany_init, ["__class__"]⟩
def dt73 : DT := ⟨("BadRing", some "__init__"), "__init__", "BadRing.__init__", s_BadRing_init, ["__class__"]⟩
def dt74 : DT := ⟨("BadHanded", some "__init__"), "__init__", "BadHanded.__init__", s_BadHanded_init, ["__class__"]⟩
def dts_0 : List (DT) := [dt0, dt1, dt2, dt3, dt4, dt5, dt6, dt7, dt8, dt9, dt10, dt11, dt12, dt13, dt14, dt15, dt16, dt17, dt18, dt19, dt20, dt21, dt22, dt23, dt24, dt25, dt26, dt27, dt28, dt29]
def dts_1 : List (DT) := [dt30, dt31, dt32, dt33, dt34, dt35, dt36, dt37, dt38, dt39, dt40, dt41, dt42, dt43, dt44, dt45, dt46, dt47, dt48, dt49, dt50, dt51, dt52, dt53, dt54, dt55, dt56, dt57, dt58, dt59]
def dts_2 : List (DT) := [dt60, dt61, dt62, dt63, dt64, dt65, dt66, dt67, dt68, dt69, dt70, dt71, dt72, dt73, dt74]
def dts : List DT := dts_0 ++ dts_1 ++ dts_2
def ck0 (K : PySem.W.Frag) : Bool := (He.Fa.glo "is_whole").ok K
def ck1 (K : PySem.W.Frag) : Bool := (He.Fa.glo "is_pair").ok K
def ck2 (K : PySem.W.Frag) : Bool := (He.Fa.glo "is_item").ok K
def ck3 (K : PySem.W.Frag) : Bool := (He.Fa.glo "is_row").ok K
def ck4 (K : PySem.W.Frag) : Bool := (He.Fa.glo "keys_differ").ok K
def ck5 (K : PySem.W.Frag) : Bool := (He.Fa.glo "items_of").ok K
def ck6 (K : PySem.W.Frag) : Bool := (He.Fa.glo "is_ring").ok K
def ck7 (K : PySem.W.Frag) : Bool := (He.Fa.glo "is_way").ok K
def ck8 (K : PySem.W.Frag) : Bool := (He.Fa.glo "check_ring").ok K
def ck9 (K : PySem.W.Frag) : Bool := (He.Fa.glo "check_way").ok K
def ck10 (K : PySem.W.Frag) : Bool := (He.Fa.glo "home").ok K
def ck11 (K : PySem.W.Frag) : Bool := (He.Fa.glo "distance").ok K
def ck12 (K : PySem.W.Frag) : Bool := (He.Fa.glo "gap").ok K
def ck13 (K : PySem.W.Frag) : Bool := (He.Fa.glo "runs").ok K
def ck14 (K : PySem.W.Frag) : Bool := (He.Fa.glo "all_items").ok K
def ck15 (K : PySem.W.Frag) : Bool := (He.Fa.glo "is_reached").ok K
def ck16 (K : PySem.W.Frag) : Bool := (He.Fa.glo "is_in_order").ok K
def ck17 (K : PySem.W.Frag) : Bool := (He.Fa.glo "is_lawful").ok K
def ck18 (K : PySem.W.Frag) : Bool := (He.Fa.glo "set_register").ok K
def ck19 (K : PySem.W.Frag) : Bool := (He.Fa.glo "do_line").ok K
def ck20 (K : PySem.W.Frag) : Bool := (He.Fa.glo "play_lines").ok K
def ck21 (K : PySem.W.Frag) : Bool := (He.Fa.glo "owed_items").ok K
def ck22 (K : PySem.W.Frag) : Bool := (He.Fa.glo "leaves_owed").ok K
def ck23 (K : PySem.W.Frag) : Bool := (He.Fa.glo "owed_row").ok K
def ck24 (K : PySem.W.Frag) : Bool := (He.Fa.glo "is_steady").ok K
def ck25 (K : PySem.W.Frag) : Bool := (He.Fa.glo "broken_promises").ok K
def ck26 (K : PySem.W.Frag) : Bool := (He.Fa.glo "can_be_played").ok K
def ck27 (K : PySem.W.Frag) : Bool := (He.Fa.glo "can_be_handed").ok K
def ck28 (K : PySem.W.Frag) : Bool := (He.Fa.glo "play").ok K
def ck29 (K : PySem.W.Frag) : Bool := (He.Fa.glo "is_count").ok K
def ck30 (K : PySem.W.Frag) : Bool := (He.Fa.glo "fits").ok K
def ck31 (K : PySem.W.Frag) : Bool := (He.Fa.glo "filled").ok K
def ck32 (K : PySem.W.Frag) : Bool := (He.Fa.glo "first_filled").ok K
def ck33 (K : PySem.W.Frag) : Bool := (He.Fa.glo "read_part").ok K
def ck34 (K : PySem.W.Frag) : Bool := (He.Fa.glo "read_test").ok K
def ck35 (K : PySem.W.Frag) : Bool := (He.Fa.glo "read_line").ok K
def ck36 (K : PySem.W.Frag) : Bool := (He.Fa.glo "read_turn").ok K
def ck37 (K : PySem.W.Frag) : Bool := (He.Fa.glo "loop_around").ok K
def ck38 (K : PySem.W.Frag) : Bool := (He.Fa.glo "read_lines").ok K
def ck39 (K : PySem.W.Frag) : Bool := (He.Fa.glo "landing").ok K
def ck40 (K : PySem.W.Frag) : Bool := (He.Fa.glo "link").ok K
def ck41 (K : PySem.W.Frag) : Bool := (He.Fa.glo "read_program").ok K
def ck42 (K : PySem.W.Frag) : Bool := (He.Fa.glo "is_kind").ok K
def ck43 (K : PySem.W.Frag) : Bool := (He.Fa.glo "lines_of").ok K
def ck44 (K : PySem.W.Frag) : Bool := (He.Fa.glo "barred_words").ok K
def ck45 (K : PySem.W.Frag) : Bool := (He.Fa.glo "barred_lines").ok K
def ck46 (K : PySem.W.Frag) : Bool := (He.Fa.glo "all_ways").ok K
def ck47 (K : PySem.W.Frag) : Bool := (He.Fa.glo "behind_go").ok K
def ck48 (K : PySem.W.Frag) : Bool := (He.Fa.glo "refused_on").ok K
def ck49 (K : PySem.W.Frag) : Bool := (He.Fa.glo "refused_lines").ok K
def ck50 (K : PySem.W.Frag) : Bool := (He.Fa.glo "outer_ifs").ok K
def ck51 (K : PySem.W.Frag) : Bool := (He.Fa.glo "_law_bag").ok K
def ck52 (K : PySem.W.Frag) : Bool := (He.Fa.glo "_law_draw").ok K
def ck53 (K : PySem.W.Frag) : Bool := (He.Fa.glo "_law_ring").ok K
def ck54 (K : PySem.W.Frag) : Bool := (He.Fa.glo "_law_thing").ok K
def ck55 (K : PySem.W.Frag) : Bool := (He.Fa.glo "_law_told").ok K
def ck56 (K : PySem.W.Frag) : Bool := (He.Fa.glo "_law_odd_ring").ok K
def ck57 (K : PySem.W.Frag) : Bool := (He.Fa.glo "_law_bad_handed").ok K
def ck58 (K : PySem.W.Frag) : Bool := (He.Fa.glo "law").ok K
def ck59 (K : PySem.W.Frag) : Bool := (He.Fa.glo "RingError").ok K
def ck60 (K : PySem.W.Frag) : Bool := (He.Fa.glo "BadKind").ok K
def ck61 (K : PySem.W.Frag) : Bool := (He.Fa.glo "BadWay").ok K
def ck62 (K : PySem.W.Frag) : Bool := (He.Fa.glo "BadLine").ok K
def ck63 (K : PySem.W.Frag) : Bool := (He.Fa.glo "TooMany").ok K
def ck64 (K : PySem.W.Frag) : Bool := (He.Fa.glo "BadRing").ok K
def ck65 (K : PySem.W.Frag) : Bool := (He.Fa.glo "BadHanded").ok K
def ck66 (K : PySem.W.Frag) : Bool := (He.Fa.glo "Line").ok K
def ck67 (K : PySem.W.Frag) : Bool := (He.Fa.glo "Walk").ok K
def ck68 (K : PySem.W.Frag) : Bool := (He.Fa.glo "Code").ok K
def ck69 (K : PySem.W.Frag) : Bool := (He.Fa.glo "State").ok K
def ck70 (K : PySem.W.Frag) : Bool := (He.Fa.glo "Play").ok K
def ck71 (K : PySem.W.Frag) : Bool := (He.Fa.glo "KINDS").ok K
def ck72 (K : PySem.W.Frag) : Bool := (He.Fa.glo "WAYS").ok K
def ck73 (K : PySem.W.Frag) : Bool := (He.Fa.glo "STEP").ok K
def ck74 (K : PySem.W.Frag) : Bool := (He.Fa.glo "START").ok K
def ck75 (K : PySem.W.Frag) : Bool := (He.Fa.glo "WRITES").ok K
def ck76 (K : PySem.W.Frag) : Bool := (He.Fa.glo "OUTER_LINES").ok K
def ck77 (K : PySem.W.Frag) : Bool := (He.Fa.glo "LOOP_LINES").ok K
def ck78 (K : PySem.W.Frag) : Bool := (He.Fa.glo "PARTS").ok K
def ck79 (K : PySem.W.Frag) : Bool := (He.Fa.glo "PLACES").ok K
def ck80 (K : PySem.W.Frag) : Bool := (He.Fa.free "isinstance").ok K
def ck81 (K : PySem.W.Frag) : Bool := (He.Fa.free "int").ok K
def ck82 (K : PySem.W.Frag) : Bool := (He.Fa.free "bool").ok K
def ck83 (K : PySem.W.Frag) : Bool := (He.Fa.free "str").ok K
def ck84 (K : PySem.W.Frag) : Bool := (He.Fa.free "tuple").ok K
def ck85 (K : PySem.W.Frag) : Bool := (He.Fa.free "list").ok K
def ck86 (K : PySem.W.Frag) : Bool := (He.Fa.free "zip").ok K
def ck87 (K : PySem.W.Frag) : Bool := (He.Fa.free "len").ok K
def ck88 (K : PySem.W.Frag) : Bool := (He.Fa.free "all").ok K
def ck89 (K : PySem.W.Frag) : Bool := (He.Fa.free "any").ok K
def ck90 (K : PySem.W.Frag) : Bool := (He.Fa.free "range").ok K
def ck91 (K : PySem.W.Frag) : Bool := (He.Fa.free "enumerate").ok K
def ck92 (K : PySem.W.Frag) : Bool := (He.Fa.free "min").ok K
def ck93 (K : PySem.W.Frag) : Bool := (He.Fa.free "set").ok K
def ck94 (K : PySem.W.Frag) : Bool := (He.Fa.free "sorted").ok K
def ck95 (K : PySem.W.Frag) : Bool := (He.Fa.free "super").ok K
def ck96 (K : PySem.W.Frag) : Bool := (He.Fa.int "MOST_STEPS" 60).ok K
def ck97 (K : PySem.W.Frag) : Bool := (He.Fa.int "MOST_LINES" 60).ok K
def ck98 (K : PySem.W.Frag) : Bool := (He.Fa.int "MOST_IFS" 7).ok K
def ck99 (K : PySem.W.Frag) : Bool := (He.Fa.int "MOST_LOOPS" 2).ok K
def ck100 (K : PySem.W.Frag) : Bool := (He.Fa.int "MOST_NEXTS" 12).ok K
def ck101 (K : PySem.W.Frag) : Bool := (He.Fa.int "MOST_WRITES" 12).ok K
def ck102 (K : PySem.W.Frag) : Bool := (He.Fa.str "STONE" "stone").ok K
def ck103 (K : PySem.W.Frag) : Bool := (He.Fa.str "DONE" "done").ok K
def ck104 (K : PySem.W.Frag) : Bool := clsB K (He.ga K "Line") ["form", "words", "test", "loop", "opener", "turn", "ending", "then", "other"]
def ck105 (K : PySem.W.Frag) : Bool := clsB K (He.ga K "Walk") ["kind", "program", "loops", "passed", "placed", "nexts", "writes", "settings", "refused"]
def ck106 (K : PySem.W.Frag) : Bool := clsB K (He.ga K "Code") ["kind", "way", "text", "texts", "program"]
def ck107 (K : PySem.W.Frag) : Bool := clsB K (He.ga K "State") ["code", "start", "rows", "registers", "hand", "key", "steps", "played", "sided", "met", "last_met"]
def ck108 (K : PySem.W.Frag) : Bool := clsB K (He.ga K "Play") ["ended", "left", "out", "steps", "looks", "broken", "_played", "_sided", "_met"]
def ck109 (K : PySem.W.Frag) : Bool := (He.Fa.mkr "Line").ok K
def ck110 (K : PySem.W.Frag) : Bool := (He.Fa.mkr "Walk").ok K
def ck111 (K : PySem.W.Frag) : Bool := (He.Fa.meth "Walk" "is_behind_loops").ok K
def ck112 (K : PySem.W.Frag) : Bool := (He.Fa.meth "Walk" "may_place").ok K
def ck113 (K : PySem.W.Frag) : Bool := (He.Fa.meth "Walk" "meet_loop").ok K
def ck114 (K : PySem.W.Frag) : Bool := (He.Fa.meth "Walk" "meet_early_setting").ok K
def ck115 (K : PySem.W.Frag) : Bool := (He.Fa.meth "Walk" "meet_late_setting").ok K
def ck116 (K : PySem.W.Frag) : Bool := (He.Fa.mkr "Code").ok K
def ck117 (K : PySem.W.Frag) : Bool := (He.Fa.mkr "State").ok K
def ck118 (K : PySem.W.Frag) : Bool := (He.Fa.mkr "Play").ok K
def ck119 (K : PySem.W.Frag) : Bool := strTupB K (He.ga K "KINDS") ["find", "put", "set", "take", "drop"]
def ck120 (K : PySem.W.Frag) : Bool := strTupB K (He.ga K "WAYS") ["plain", "stones", "sorted"]
def ck121 (K : PySem.W.Frag) : Bool := strTupB K (He.ga K "STEP") ["at", "at"]
def ck122 (K : PySem.W.Frag) : Bool := strTupB K (He.ga K "START") ["at", "first"]
def ck123 (K : PySem.W.Frag) : Bool := formsB K (He.ga K "WRITES") [("copy", "S gets S"), ("lay", "S gets hand"), ("lift", "hand gets S"), ("swap", "swap hand S"), ("empty", "empty S"), ("stone", "stone S")]
def ck124 (K : PySem.W.Frag) : Bool := formsB K (He.ga K "OUTER_LINES") [("set", "R = V"), ("next", "R = next S"), ("quit", "quit")]
def ck125 (K : PySem.W.Frag) : Bool := formsB K (He.ga K "LOOP_LINES") [("go", "go"), ("keep", "keep H"), ("stop", "stop"), ("quit", "quit")]
def ck126 (K : PySem.W.Frag) : Bool := formsB K (He.ga K "PARTS") [("row", "S is Q"), ("same", "N is N"), ("numbers", "X C X"), ("distances", "from X C from X"), ("steps", "steps < K")]
def ck127 (K : PySem.W.Frag) : Bool := plB K
def ck128 (K : PySem.W.Frag) : Bool := exClB K (He.ga K "BadKind")
def ck129 (K : PySem.W.Frag) : Bool := exFnB P7.main.file K (He.ga K "BadKind")
def ck130 (K : PySem.W.Frag) : Bool := exB7 K (He.ga K "BadKind") (He.ma K (He.ga K "BadKind") "__init__") ["kind"]
def ck131 (K : PySem.W.Frag) : Bool := exClB K (He.ga K "BadWay")
def ck132 (K : PySem.W.Frag) : Bool := exFnB P7.main.file K (He.ga K "BadWay")
def ck133 (K : PySem.W.Frag) : Bool := exB7 K (He.ga K "BadWay") (He.ma K (He.ga K "BadWay") "__init__") ["way"]
def ck134 (K : PySem.W.Frag) : Bool := exClB K (He.ga K "BadLine")
def ck135 (K : PySem.W.Frag) : Bool := exFnB P7.main.file K (He.ga K "BadLine")
def ck136 (K : PySem.W.Frag) : Bool := exB7 K (He.ga K "BadLine") (He.ma K (He.ga K "BadLine") "__init__") ["line"]
def ck137 (K : PySem.W.Frag) : Bool := exClB K (He.ga K "TooMany")
def ck138 (K : PySem.W.Frag) : Bool := exFnB P7.main.file K (He.ga K "TooMany")
def ck139 (K : PySem.W.Frag) : Bool := exB7 K (He.ga K "TooMany") (He.ma K (He.ga K "TooMany") "__init__") ["what", "many", "most"]
def ck140 (K : PySem.W.Frag) : Bool := exClB K (He.ga K "BadRing")
def ck141 (K : PySem.W.Frag) : Bool := exFnB P7.main.file K (He.ga K "BadRing")
def ck142 (K : PySem.W.Frag) : Bool := exB7 K (He.ga K "BadRing") (He.ma K (He.ga K "BadRing") "__init__") ["ring"]
def ck143 (K : PySem.W.Frag) : Bool := exClB K (He.ga K "BadHanded")
def ck144 (K : PySem.W.Frag) : Bool := exFnB P7.main.file K (He.ga K "BadHanded")
def ck145 (K : PySem.W.Frag) : Bool := exB7 K (He.ga K "BadHanded") (He.ma K (He.ga K "BadHanded") "__init__") ["handed"]
def ck146 (K : PySem.W.Frag) : Bool := decide (PySem.W.exmOne K (.ref (He.ga K "BadRing")) (.ref (He.ga K "RingError")) = some true)
def ck147 (K : PySem.W.Frag) : Bool := decide (PySem.W.exmOne K (.ref (He.ga K "BadHanded")) (.ref (He.ga K "RingError")) = some true)
def ck148 (K : PySem.W.Frag) : Bool := decide (PySem.W.kitOne K (.ref (He.ga K "BadHanded")) (.ref (He.ga K "BadRing")) = some false)
def ck149 (K : PySem.W.Frag) : Bool := decide (PySem.W.specialIn K (.builtin "object.__class__") "__get__" = some (some (.builtin "getset_descriptor.__get__")))
def ck150 (K : PySem.W.Frag) : Bool := decide (PySem.W.takesIn K (.builtin "object.__class__") = some true)
def ck151 (K : PySem.W.Frag) : Bool := decide (PySem.W.nsIn K PySem.cStatics "thirdparty.any" = some none)
def cks_0 : List (PySem.W.Frag → Bool) := [ck0, ck1, ck2, ck3, ck4, ck5, ck6, ck7, ck8, ck9, ck10, ck11, ck12, ck13, ck14, ck15, ck16, ck17, ck18, ck19, ck20, ck21, ck22, ck23, ck24, ck25, ck26, ck27, ck28, ck29]
def cks_1 : List (PySem.W.Frag → Bool) := [ck30, ck31, ck32, ck33, ck34, ck35, ck36, ck37, ck38, ck39, ck40, ck41, ck42, ck43, ck44, ck45, ck46, ck47, ck48, ck49, ck50, ck51, ck52, ck53, ck54, ck55, ck56, ck57, ck58, ck59]
def cks_2 : List (PySem.W.Frag → Bool) := [ck60, ck61, ck62, ck63, ck64, ck65, ck66, ck67, ck68, ck69, ck70, ck71, ck72, ck73, ck74, ck75, ck76, ck77, ck78, ck79, ck80, ck81, ck82, ck83, ck84, ck85, ck86, ck87, ck88, ck89]
def cks_3 : List (PySem.W.Frag → Bool) := [ck90, ck91, ck92, ck93, ck94, ck95, ck96, ck97, ck98, ck99, ck100, ck101, ck102, ck103, ck104, ck105, ck106, ck107, ck108, ck109, ck110, ck111, ck112, ck113, ck114, ck115, ck116, ck117, ck118, ck119]
def cks_4 : List (PySem.W.Frag → Bool) := [ck120, ck121, ck122, ck123, ck124, ck125, ck126, ck127, ck128, ck129, ck130, ck131, ck132, ck133, ck134, ck135, ck136, ck137, ck138, ck139, ck140, ck141, ck142, ck143, ck144, ck145, ck146, ck147, ck148, ck149]
def cks_5 : List (PySem.W.Frag → Bool) := [ck150, ck151]
def cks : List (PySem.W.Frag → Bool) := cks_0 ++ cks_1 ++ cks_2 ++ cks_3 ++ cks_4 ++ cks_5
def adr_0 : List (Addr) := [2, 3, 15, 17, 18, 20, 21, 22, 29, 30, 31, 32, 35, 38, 43, 44, 46, 47, 49, 50, 51, 52, 53, 56, 59, 64, 65, 67, 68, 70, 71, 72, 73, 74, 77, 80, 85, 86, 88, 89, 91, 92, 93, 94, 95, 98, 101, 106, 107, 109, 110, 112, 113, 114, 115, 116, 119, 122, 127, 128, 130, 131, 133, 134, 135, 136, 137, 140, 143, 148, 149, 151, 152, 154, 155, 156, 157, 158, 161, 164, 169, 170, 172, 173, 175, 176, 177, 178, 179, 182, 183, 185, 186, 188, 189, 190, 192, 193, 195, 196]
def adr_1 : List (Addr) := [197, 199, 200, 202, 203, 204, 206, 207, 209, 210, 211, 214, 215, 216, 219, 220, 221, 224, 225, 226, 228, 229, 231, 232, 233, 235, 236, 238, 239, 240, 242, 243, 245, 246, 247, 249, 250, 252, 253, 254, 256, 257, 259, 260, 261, 263, 264, 266, 267, 268, 270, 271, 273, 274, 275, 277, 278, 280, 281, 282, 284, 285, 287, 288, 289, 291, 292, 294, 295, 296, 298, 299, 301, 302, 310, 312, 313, 315, 316, 317, 319, 320, 322, 323, 324, 325, 326, 327, 328, 331, 333, 334, 336, 337, 338, 340, 341, 343, 344, 345]
def adr_2 : List (Addr) := [347, 348, 350, 351, 352, 354, 355, 357, 358, 359, 361, 362, 364, 365, 366, 368, 369, 371, 372, 373, 375, 376, 378, 379, 380, 382, 383, 385, 386, 387, 389, 390, 392, 393, 394, 396, 397, 399, 400, 401, 403, 404, 406, 407, 408, 410, 411, 413, 414, 415, 417, 418, 420, 421, 422, 424, 425, 427, 428, 429, 431, 432, 434, 435, 436, 439, 440, 441, 443, 444, 446, 447, 448, 450, 451, 453, 454, 455, 458, 459, 460, 462, 463, 465, 466, 474, 476, 477, 479, 480, 481, 483, 484, 486, 487, 488, 490, 491, 493, 494]
def adr_3 : List (Addr) := [495, 497, 498, 500, 501, 502, 503, 504, 505, 506, 509, 511, 512, 514, 515, 516, 519, 520, 521, 523, 524, 526, 527, 528, 529, 530, 531, 532, 533, 534, 535, 536, 537, 538, 539, 540, 541, 542, 543, 544, 545, 546, 547, 548, 549, 550, 551, 552, 553, 554, 555, 556, 557, 558, 566, 568, 569, 571, 572, 573, 574, 575, 576, 577, 580, 582, 583, 585, 586, 587, 589, 590, 592, 593, 594, 597, 598, 599, 601, 602, 604, 605, 606, 608, 609, 611, 612, 613, 616, 617, 618, 620, 621, 623, 624, 625, 627, 628, 630, 631]
def adr_4 : List (Addr) := [632, 634, 635, 637, 638, 639, 641, 642, 644, 645, 646, 648, 649, 651, 652, 653, 655, 656, 658, 659, 660, 662, 663, 665, 666, 667, 668, 669, 670, 672, 673, 675, 676, 677, 679, 680, 682, 683, 684, 686, 687, 689, 690, 691, 694, 695, 696, 698, 699, 701, 702, 703, 705, 706, 708, 709, 717, 720, 721, 722, 724, 725, 727, 728, 729, 731, 732, 734, 735, 736, 738, 739, 741, 742, 743, 745, 746, 748, 749, 750, 752, 753, 755, 756, 757, 759, 760, 762, 763, 764, 766, 767, 769, 770, 771, 773, 774, 776, 777, 778]
def adr_5 : List (Addr) := [780, 781, 783, 784, 785, 786, 787, 788, 789, 792, 795, 796, 797, 799, 800, 802, 803, 804, 807, 808, 816, 818, 819, 821, 822, 823, 825, 826, 828, 829, 830, 832, 833, 835, 836, 837, 839, 840, 842, 843, 844, 846, 847, 849, 850, 851, 853, 854, 856, 857, 858, 859, 860, 861, 862, 865, 867, 868, 870, 871, 872, 874, 875, 877, 878, 879, 882, 883, 884, 887, 888, 889, 891, 892, 894, 895, 896, 898, 899, 901, 902, 903, 906, 907, 908, 910, 911, 913, 914]
def adr : List Addr := adr_0 ++ adr_1 ++ adr_2 ++ adr_3 ++ adr_4 ++ adr_5
def loose_0 : List (Str) := ["_wall", "RingError", "BadKind", "BadWay", "BadLine", "Refused", "BadRing", "BadHanded", "TooMany", "WAYS", "STONE", "is_whole", "is_pair", "is_item", "is_row", "keys_differ", "items_of", "is_ring", "is_way", "check_ring", "check_way", "home", "distance", "gap", "runs", "all_items", "is_reached", "is_in_order", "is_lawful", "DONE"]
def loose_1 : List (Str) := ["BEYOND", "ENDLESS", "State", "row_holds", "row_named", "is_less", "compare", "ask", "holds", "set_register", "step", "copy_row", "fill", "move_item", "do_line", "station", "meet_head", "play_lines", "owed_items", "leaves_owed", "owed_row", "is_steady", "broken_promises", "Play", "can_be_played", "can_be_handed", "play", "PLACES", "MOST_STEPS", "WRITES"]
def loose_2 : List (Str) := ["OUTER_LINES", "LOOP_LINES", "PARTS", "Line", "is_count", "fits", "filled", "first_filled", "read_part", "read_test", "read_line", "read_turn", "loop_around", "read_lines", "landing", "link", "read_program", "KINDS", "MOST_LINES", "MOST_IFS", "MOST_LOOPS", "MOST_NEXTS", "MOST_WRITES", "STEP", "START", "is_kind", "lines_of", "barred_words", "barred_lines", "all_ways"]
def loose_3 : List (Str) := ["behind_go", "Walk", "refused_on", "refused_lines", "outer_ifs", "Code", "_law_bag", "_law_draw", "_law_ring", "_law_thing", "_law_told", "_law_odd_ring", "_law_bad_handed"]
def loose : List Str := loose_0 ++ loose_1 ++ loose_2 ++ loose_3
abbrev R7 : PySem.W.OpenRow := PySem.W.OpenLaw.row PySem.Challenge.rw_openrings_k07_cases_refused
abbrev hk7 : PySem.W.Hook := hookH adr cks dts
def ob7 (s : PySem.W.SharedT) : AlH := obsH cks dts (He.frG (HandSHeadRun.getT s) adr)
theorem ob7_eq (s : PySem.W.SharedT) : ob7 s = hk7.obs s.abs := obsH_eq (HandSHeadRun.getT_eq s)
theorem run0 (w : World) : HandSHeadRun.RunEq R7 (PySem.W.view R7.prog [109]) hk7 ob7 7000 loose (w.withFollow "special-get-raises" false) := by
  intro os
  kernel_rfl
theorem run1 (w : World) : HandSHeadRun.RunEq R7 (PySem.W.view R7.prog [109]) hk7 ob7 7000 loose (w.withFollow "special-get-raises" true) := by
  intro os
  kernel_rfl
theorem run7 (w : World) : HandSHeadRun.RunEq R7 (PySem.W.view R7.prog [109]) hk7 ob7 7000 loose w :=
  PySem.W.byRow2 "special-get-raises" (P := fun w => HandSHeadRun.RunEq R7 (PySem.W.view R7.prog [109]) hk7 ob7 7000 loose w) run0 run1 w
end K40

/-! ## An exception class over a class of one's own over ValueError: super().__init__('..'), then self.f = f for each of its fields -/
namespace PySem
namespace RingX
open PySem.W PySem.Calls PyProof.Rows PySem.HandSPX

structure SetP where
  (p1 p2 p3 p4 : Pos)
structure SupP where
  (q0 q1 q2 q3 q4 q5 : Pos)
def exArgs (ps : Pos) (fs : List (Str × Pos)) : Arguments := { posonlyargs := [], args := { arg := "self", annotation := none, pos := ps } :: fs.map (fun f => { arg := f.1, annotation := none, pos := f.2 }), vararg := none, kwonlyargs := [], kw_defaults := [], kwarg := none, defaults := [] }
def exSup (t : Str) (q : SupP) : Stmt := .Expr (.Call (.Attribute (.Call (.Name "super" q.q0) [] [] q.q1) "__init__" q.q2) [.Constant (.str t) 0 q.q3] [] q.q4) q.q5
def exSet (f : Str × SetP) : Stmt := .Assign [.Attribute (.Name "self" f.2.p1) f.1 f.2.p2] (.Name f.1 f.2.p3) f.2.p4
def exScope (fs : List Str) : Scope := { kind := .function, names := ("self", NameKind.local) :: ((fs.map fun f => (f, NameKind.local)) ++ [(("__class__" : Str), NameKind.free), (("super" : Str), NameKind.globalImplicit)]), isGenerator := false, isCoroutine := false, more := [] }
/-- what is asked of the fields' names -/
def namesOk (fs : List Str) : Bool :=
  (exScope fs).names.lookup ("super" : Str) == some NameKind.globalImplicit && (exScope fs).names.lookup ("__class__" : Str) == some NameKind.free && (exScope fs).names.lookup ("self" : Str) == some NameKind.local &&
    decide fs.Nodup && fs.all fun f => (exScope fs).names.lookup f == some NameKind.local && !(f == ("__debug__" : Str)) && !(f == ("self" : Str))

/-- what the written part says of the class at C, and of its __init__ at fI -/
structure ExTxt (prog : Program) (K : Frag) (mg : Str → Option Value) (C fI : Addr) (nm : Str) (fs : List Str) : Prop where
  gC : mg nm = some (.ref C)
  cls : ∃ cn q N bs bm sn sub ab col dd k0 k1 k2 k3 k5, K.lookup C = some (excClassObj cn q C N bs bm true sn sub ab col dd k0 k1 k2 k3 k5 "ValueError.__new__") ∧ refsVE bm = true
  sa : findIn K (.ref C) "__setattr__" = some (some (.builtin "object.__setattr__"))
  ga : findIn K (.ref C) "__getattribute__" = some (some (.builtin "BaseException.__getattribute__"))
  gg : findIn K (.ref C) "__getattr__" = some none
  noN : ∀ f ∈ fs, findIn K (.ref C) f = some none
  iC : findIn K (.ref C) "__init__" = some (some (.ref fI))
  tC : typeIn K (.ref fI) = some (.type "function")
  kC : keepIn K (.ref C) = true
  exC : subIn K (.ref C) (.type "BaseException") = some true
  tyC : typeIn K (.ref C) = some (.type "type")
  hdC : hasDictIn K C = true
  op : nsIn K cStatics "thirdparty.any" = some none
  sI : ks_superIn K C C "__init__" = some (some (.builtin "ValueError.__init__"))
  sV : subIn K (.ref C) (.type "ValueError") = some true
  mC : mroIn K C (.ref C) = some true
  sup : mg "super" = none
  htop : (prog.main.scope.names.lookup ("super" : Str)).isSome = false
  names : namesOk fs = true
  len : fs.length ≤ 500
  fn : ∃ (oc : Value) (od : Option Addr) (kV doc pm : Value) (an : Option Addr) (cda : Addr) (ct : Value) (cc : Addr) (osl : Array (Option Value)) (ps : Pos) (fp : List (Str × Pos)) (t : Str) (q : SupP) (sp : List (Str × SetP)) (qual : Str)
      (ccl cl : Value) (cdd cld : Option Addr) (ccs csl : Array (Option Value)) (vs : Array Value) (file : Str) (tf : Tok),
    K.lookup fI = some ⟨oc, od, .func (ksFn "__init__" qual (exArgs ps fp) (exSup t q :: sp.map exSet) (exScope fs) .none kV doc pm an (.ref cda) ct cc), osl⟩ ∧ codeIn K (.ref cda) qual = true ∧ sp.map (·.1) = fs ∧ (q.q2.endLine == q.q4.line) = true ∧
      K.lookup cda = some ⟨ccl, cdd, .fields vs, ccs⟩ ∧ vs[2]? = some (.str file tf) ∧ ((prog.main.file : Str) == file) = true ∧ K.lookup cc = some ⟨cl, cld, .cell (some (.ref C)), csl⟩ ∧
      ∀ (s : Shared) (x : Value) (us : List Value), us.length = fs.length → BindsTo s (ksFn "__init__" qual (exArgs ps fp) (exSup t q :: sp.map exSet) (exScope fs) .none kV doc pm an (.ref cda) ct cc) ⟨x :: us, []⟩ (("self", x) :: fs.zip us)

theorem one_size (v : Value) : [v].length ≤ sizeLine := by
  rw [sizeLine_eq]
  exact (by decide : 1 ≤ 16777216)

section
variable {prog : Program} {w : World} {M : Model} {A : Around} {E : Value → Shared → Prop} {h : Heap} {g : Array GenState} {d : Drawn} {t : Nat} {os : OsState} {K : Frag} {x C D u : Addr}

/-- super() in such a def -/
theorem sup_node {body : List Stmt} {q : Str} {scope : Scope} {p0 p1 : Pos} {attr : Str} {whole : Sem Value} {f cc cda L : Addr} {fd : FuncData} {ar : Arg} {vs : Array Value} {file : Str} {tf : Tok} {oc ccl cl : Value} {od cdd cld : Option Addr} {osl ccs csl : Array (Option Value)}
    {cdD : ClassData} {m mg mb : Str → Option Value} {ox : Obj} {odx : Option Obj} {Q : Value → Shared → Prop}
    (X : K.In h) (hL : h.Ns L m) (hg : h.Ns mainGlobals mg) (hb : h.Ns builtinsNs mb) (hmb : mb "super" = some (.type "super"))
    (hf : K.lookup f = some ⟨oc, od, .func fd, osl⟩) (hp : (fd.params.posonlyargs ++ fd.params.args).head? = some ar) (hv : m ar.arg = some (.ref x)) (I : InstAt h x ox C odx)
    (hcode : K.lookup cda = some ⟨ccl, cdd, .fields vs, ccs⟩) (hvs : vs[2]? = some (.str file tf)) (hfile : ((prog.main.file : Str) == file) = true)
    (hcell : K.lookup cc = some ⟨cl, cld, .cell (some (.ref D)), csl⟩) (hD : clsIn K D = some cdD) (hsub : mroIn K C (.ref D) = some true) (hsuper : mg "super" = none)
    (hat : (attr == ("__class__" : Str)) = false) (hks : scope.names.lookup ("super" : Str) = some .globalImplicit) (hkc : scope.names.lookup ("__class__" : Str) = some .free) (hka : scope.names.lookup ar.arg = some .local) (hk : scope.kind = .function)
    (htop : (prog.main.scope.names.lookup ("super" : Str)).isSome = false)
    (hq : ∀ h', h'.get? h.objs.size = some (ks_superObj D x C) → (∀ b o, h.get? b = some o → h'.get? b = some o) → Q (.ref h.objs.size) ⟨h', g, d, t, os⟩) :
    _root_.PySem.wpAt (model prog w) A (.func body (ksEnv q scope L f (.ref cda) cc)) (attributeBase (.Call (.Name "super" p0) [] [] p1) attr (ksEnv q scope L f (.ref cda) cc) whole) Q E ⟨h, g, d, t, os⟩ := by
  obtain ⟨oD, hD1, hD2⟩ : ∃ oD, h.get? D = some oD ∧ oD.data = .cls cdD := by
    unfold clsIn at hD
    split at hD
    · rename_i c d cd' sl ho
      cases hD
      exact ⟨_, X _ _ ho, rfl⟩
    · cases hD
  refine ks_wpAt_super_base (env := ksEnv q scope L f (.ref cda) cc) hks hkc hat rfl (X _ _ hf) rfl hp rfl (X _ _ hcode) rfl hvs hfile htop ?_
  refine ks_loadName_global hk hks (loadGlobal_builtin (env := ksEnv q scope L f (.ref cda) cc) hg hsuper hb hmb ⟨rfl, ?_⟩)
  refine wpAny_loadName_free hk hkc rfl ⟨_, X _ _ hcell, rfl⟩ ?_
  refine wpAny_loadName_local hk hka hL hv ?_
  refine ks_wpAny_isType_cls hD1 hD2 ⟨rfl, ?_⟩
  refine ks_wpAny_call_super hD1 hD2 I.at_ I.cls (fun c e => ?_) (looks_mroIn X hsub) (fun h' e k => ?_)
  · have := I.no
    unfold notCls at this
    rw [e] at this
    exact Bool.noConfusion this
  · exact hq h' e k

/-- ValueError.__init__ bound to e, called -/
theorem call_mw {nm q : Str} {N : Addr} {bs bm : List Value} {hdct : Bool} {sn : List Str} {sub : List Value} {ab : Bool} {col : Option Bool} {dd : Option Addr} {k0 k1 k2 k3 k5 : Option Value} {e t0 : Addr} {rest : List Value} {Q : Value → Shared → Prop}
    (hC : h.get? C = some (excClassObj nm q C N bs bm hdct sn sub ab col dd k0 k1 k2 k3 k5 "ValueError.__new__")) (he : h.get? e = some (HandSPX.excO C t0)) (hu : h.get? u = some (kxs_mw "ValueError.__init__" e)) (hrest : rest.length ≤ sizeLine)
    (hq : ∀ h' t1, (∀ b o, b ≠ e → h.get? b = some o → h'.get? b = some o) → h'.get? e = some (HandSPX.excO C t1) → Q .none ⟨h', g, d, t, os⟩) :
    wpAny (model prog w) A (call (.ref u) rest) Q E ⟨h, g, d, t, os⟩ := by
  refine wpAny_call (codeAny_of_tree ?_)
  show wpAny _ A.in1 (callAny (.ref u) ⟨rest, []⟩) _ _ _
  simp only [callAny]
  refine wpAny_bind (wpAny_load hu ?_)
  simp only [kxs_mw, show (Value.type "method-wrapper" == Value.type "method" || Value.type "method-wrapper" == Value.type "builtin_function_or_method" || Value.type "method-wrapper" == Value.type "method-wrapper") = true by decide, if_true]
  refine W.KFB.if_so (by decide) ?_
  refine wpAny_bind (check_bound_init F.excBase_ValueError.toExcCallFacts hC he rfl ?_)
  refine wpAny_bind (wpAny_pure (wpAny_pure ?_))
  refine ⟨Code.quiet_builtin _ (by decide +kernel), codeAny_builtin F.excBase_ValueError.initEntry ?_⟩
  rw [Around.under_plainId F.excBase_ValueError.init.plain _]
  wp_walk
  refine hq _ h.objs.size (fun b o hb ho => ?_) ?_
  · rw [Heap.get?_update_other _ _ (Ne.symm hb)]
    exact Heap.get?_push_of_some _ ho
  · rw [Heap.get?_update_self _ (Heap.get?_push_of_some _ he) rfl]
    rfl
theorem callWith_mw {s : Shared} {pos : Pos} {first : List Value} {env : Env} {e : Expr} {rest : List Expr} {Q : Value → Shared → Prop}
    (h : wpAny M A (spliced (backTo pos (starEach (e :: rest) env))) (fun vs s₁ => s₁.heap.get? u = some (kxs_mw "ValueError.__init__" x) ∧ wpAny M A (call (.ref u) (first ++ vs)) Q E s₁) E s)
    (he : starEach (e :: rest) env = (false, eval e env) :: starEach rest env := by rfl) (hplain : (backTo pos (starEach rest env)).any (·.1) = false := by rfl) :
    wpAny M A (callWith pos (.ref u) first (backTo pos (starEach (e :: rest) env)) []) Q E s := by
  rw [he] at h ⊢
  refine kxs_callWith (i := "ValueError.__init__") (x := x) (by show (false || (backTo pos (starEach rest env)).any (·.1)) = false; rw [hplain]; rfl) ?_
  exact evalArgs_plain h
/-- a method of something, called with one written constant, in a known activation -/
theorem at_meth {c : Code} {s : Shared} {env : Env} {o : Expr} {name : Str} {apos pos p3 : Pos} {k : Const} {j : Nat} {Q : Value → Shared → Prop} (hline : (apos.endLine == pos.line) = true)
    (h : ∀ pl, _root_.PySem.wpAt M A c (attributeBase o name env (eval o env)) (fun ov s₁ => wpAny M A (getMethod ov name pl) (fun fx s₂ => wpAny M A (callWith pos fx.1 fx.2 (backTo pos (starEach [.Constant k j p3] env)) []) Q E s₂) E s₁) E s) :
    _root_.PySem.wpAt M A c (eval (.Call (.Attribute o name apos) [.Constant k j p3] [] pos) env) Q E s := by
  rw [arm_eval_Call]
  refine wpAt_bind (_root_.PySem.wpAt_mono (h (do return (← importBound o env).getD true)) (fun ov s₁ h₁ => wpAt_of_wpAny (wpAny_bind (wpAny_standAt ?_))) fun _ _ y => y)
  have hform : methodCallForm (([.Constant k j p3] : List Expr).length + ([] : List Keyword).length) (backTo pos (starEach [.Constant k j p3] env)) (backToKw pos (keywordEach [] env)) = true := rfl
  have hpos : methodCallPos true o env apos pos = pure pos := by unfold methodCallPos; simp [hline]
  unfold methodCall calleeOf
  rw [hform]
  simp only [if_true]
  exact wpAny_bind (wpAny_holding (wpAny_mono h₁ (fun fx s₂ h₂ => wpAny_bind (wpAny_of_eq hpos h₂)) fun _ _ y => y))
end
end RingX
end PySem

namespace PySem
namespace RingX
open PySem.W PySem.Calls PyProof.Rows PySem.HandSPX

/-- the fields' map behind the stores of fs, in their order -/
def fmap : List Str → List Value → (Str → Option Value) → Str → Option Value
  | f :: fs, v :: vs, m => fmap fs vs (fun y => if y = f then some v else m y)
  | _, _, m => m

abbrev excD (C t : Addr) (od : Option Addr) : Obj := { cls := .ref C, dict := od, data := .fields #[.ref t, .none, .none, .none, .bool false, .none] }

section
variable {prog : Program} {w : World} {A : Around} {E : Value → Shared → Prop} {R : Result → Shared → Prop} {K : Frag} {mg mb : Str → Option Value} {C fI L x t0 : Addr}

theorem exc_ld {M : Model} {s : Shared} {name : Str} {scope : Scope} {a cc : Addr} {cd : Value} {m : Str → Option Value} {y : Str} {pos : Pos} {v : Value} {Q : Value → Shared → Prop} (hn : s.heap.Ns L m) (hv : m y = some v) (h : Q v s)
    (hk : scope.kind = .function) (hl : scope.names.lookup y = some .local) (hd : (y == ("__debug__" : Str)) = false) : wpAny M A (eval (.Name y pos) (ksEnv name scope L a cd cc)) Q E s :=
  wpAny_Name (wpAny_loadName_local (env := ksEnv name scope L a cd cc) hk hl hn hv h) hd

/-- what is asked of a class whose instances get fields -/
structure SetC (K : Frag) (C : Addr) : Prop where
  sa : findIn K (.ref C) "__setattr__" = some (some (.builtin "object.__setattr__"))
  cl : ∃ cd, clsIn K C = some cd ∧ refsVE cd.mro = true ∧ cd.hasDict = true

/-- self.f = f, for the fields behind the first -/
theorem sets_on (T : SetC K C) {q : Str} {sc : Scope} {a cc dx : Addr} {cd : Value} {m : Str → Option Value} {Q : Flow → Shared → Prop} (hk : sc.kind = .function) (hself : sc.names.lookup ("self" : Str) = some .local) (hmx : m "self" = some (Value.ref x)) :
    ∀ (sp : List (Str × SetP)) (us : List Value) (m0 : Str → Option Value) (nl : List Str) (s : Shared), us.length = sp.length → nl.length + sp.length ≤ 900 →
      (∀ f ∈ sp, sc.names.lookup f.1 = some .local ∧ (f.1 == ("__debug__" : Str)) = false ∧ findIn K (.ref C) f.1 = some none) → (∀ p ∈ (sp.map (·.1)).zip us, m p.1 = some p.2) →
      K.In s.heap → s.heap.Ns L m → L ≠ dx → s.heap.get? x = some (excD C t0 (some dx)) → x ≠ dx → s.heap.Ns1 dx m0 → Within m0 nl →
      (∀ h' tk, (∀ b o, b ≠ dx → s.heap.get? b = some o → h'.get? b = some o) → h'.Ns1 dx (fmap (sp.map (·.1)) us m0) → Q .next { s with heap := h', toks := tk }) →
      (∀ b o, K.lookup b = some o → b ≠ dx) →
      wpAny (model prog w) A (execs (sp.map exSet) (ksEnv q sc L a cd cc)) Q E s := by
  intro sp
  induction sp with
  | nil =>
    intro us m0 nl s hl _ _ _ X hL hLd hx hxd hd hw hq _
    cases us with
    | cons _ _ => cases hl
    | nil =>
      refine wpAny_execs_nil ?_
      obtain ⟨h, g, d, t, os⟩ := s
      exact hq h t (fun _ _ _ e => e) hd
  | cons f sp ih =>
    intro us m0 nl s hl hz hf hm X hL hLd hx hxd hd hw hq hKd
    cases us with
    | nil => cases hl
    | cons v us =>
      obtain ⟨cl, hcl, hmro, hdict⟩ := T.cl
      obtain ⟨hloc, hdbg, hno⟩ := hf f List.mem_cons_self
      obtain ⟨oD, _, _, hoD, _, _⟩ := hd.count hw
      rw [List.map_cons]
      refine wpAny_execs_cons (plainObj_wpAny_Assign_Attribute ?_)
      refine exc_ld (L := L) hL (hm (f.1, v) List.mem_cons_self) (exc_ld (L := L) hL hmx ?_ hk hself (by decide)) hk hloc hdbg
      refine set_plain X (ox := excD C t0 (some dx)) (od := some oD) ⟨hx, rfl, rfl, hoD⟩ T.sa ?_
      obtain ⟨h, g, d, t, os⟩ := s
      refine PySem.OEX.osa_old X hx hd hw (by have := hz; simp only [List.length_cons] at this; omega) hcl hmro hdict hno (fun h' tk' k hn => ?_)
      refine ih us _ (f.1 :: nl) ⟨h', g, d, tk', os⟩ (by simpa using hl) (by have := hz; simp only [List.length_cons] at this ⊢; omega) (fun y hy => hf y (List.mem_cons_of_mem _ hy)) (fun p hp => hm p (List.mem_cons_of_mem _ hp))
        (fun b o e => k b o (hKd b o e) (X b o e)) ?_ hLd (k _ _ hxd hx) hxd hn (Within.cons f.1 v hw) (fun h'' tk'' k2 hn2 => hq h'' tk'' (fun b o hb e => k2 b o hb (k b o hb e)) hn2) hKd
      obtain ⟨oL, es, ep, hoL, r⟩ := hL
      exact ⟨oL, es, ep, k _ _ hLd hoL, r⟩

theorem lookup_mem {α : Type} : ∀ {l : List (Str × α)} {p : Str × α}, (l.map (·.1)).Nodup → p ∈ l → l.lookup p.1 = some p.2
  | [], _, _, h => nomatch h
  | q :: l, p, hn, h => by
    obtain ⟨n1, n2⟩ := List.nodup_cons.mp (show (q.1 :: l.map (·.1)).Nodup from hn)
    rcases List.mem_cons.mp h with e | e
    · subst e
      rw [show p :: l = (p.1, p.2) :: l from rfl, List.lookup_cons, beq_self_eq_true]
    · have ne : (p.1 == q.1) = false := by
        refine beq_eq_false_iff_ne.mpr fun z => n1 ?_
        rw [← z]
        exact List.mem_map_of_mem e
      rw [show q :: l = (q.1, q.2) :: l from rfl, List.lookup_cons, ne]
      exact lookup_mem n2 e
theorem zip_fst {α β : Type} : ∀ {l : List α} {r : List β}, r.length = l.length → (l.zip r).map (·.1) = l
  | [], _, _ => rfl
  | _ :: _, [], h => nomatch h
  | a :: l, b :: r, h => by
    show a :: (l.zip r).map (·.1) = a :: l
    rw [zip_fst (by simpa using h)]

/-- what __init__ leaves of a fresh exception at x -/
structure InitEnd (h h' : Heap) (x C : Addr) (od : Option Addr) (fs : List Str) (us : List Value) : Prop where
  keep : ∀ b o, b ≠ x → h.get? b = some o → h'.get? b = some o
  obj : ∃ t1, h'.get? x = some (excD C t1 od)
  dict : (fs = [] ∧ od = none) ∨ fs ≠ [] ∧ ∃ dx, od = some dx ∧ h.objs.size ≤ dx ∧ dx ≠ x ∧ h'.Ns1 dx (fmap fs us fun _ => none)

theorem ex_init {nm : Str} {fs : List Str} {s : Shared} {us : List Value} (T : ExTxt prog K mg C fI nm fs) (X : K.In s.heap) (hlim : s.heap.NoLimit) (G : s.heap.Ns mainGlobals mg) (hB : s.heap.Ns builtinsNs mb) (hmb : ∀ y : Str, y ≠ "__name__" → mb y = bootBuiltins y)
    (hx : s.heap.get? x = some (excO C t0)) (hnx : K.lookup x = none) (hroom : A.depth < recursionLimit) (hl : us.length = fs.length)
    (hq : ∀ h' tk od, InitEnd s.heap h' x C od fs us → R (.ok (.ret .none)) { s with heap := h', toks := tk }) :
    codeAny (model prog w) A (.call (.ref fI) ⟨.ref x :: us, []⟩) R s := by
  obtain ⟨oc, od, kV, doc, pm, an, cda, ct, cc, osl, ps, fp, txt, q, sp, qual, ccl, cl, cdd, cld, ccs, csl, vs, file, tf, ho, hcd, hsp, hline, hcode, hvs, hfile, hcell, hbind⟩ := T.fn
  obtain ⟨cn, cq, N, bs, bm, sn, sub, ab, col, dd, k0, k1, k2, k3, k5, hC, hbm⟩ := T.cls
  have hcl : clsIn K C = some { name := cn, bases := bs, mro := .ref C :: bm, ns := N, qualname := cq, hasDict := true, slotNames := sn, subclasses := sub, abstract := ab, collection := col, hasDel := false } := by unfold clsIn; rw [hC] <;> rfl
  have hnames := T.names
  unfold namesOk at hnames
  simp only [Bool.and_eq_true, beq_iff_eq, List.all_eq_true, Bool.not_eq_true', decide_eq_true_eq] at hnames
  obtain ⟨⟨⟨⟨nS, nC⟩, nX⟩, nD⟩, nF⟩ := hnames
  have hlocF : ∀ y ∈ (("self" : Str), Value.ref x) :: fs.zip us, (exScope fs).names.lookup y.1 = some .local := by
    intro y hy
    rcases List.mem_cons.mp hy with e | e
    · rw [e]; exact nX
    · exact (nF y.1 (List.of_mem_zip e).1).1.1
  have hcellF : ∀ y ∈ (exScope fs).names, y.2 ≠ .cell := by
    intro y hy
    unfold exScope at hy
    simp only [List.mem_cons, List.mem_append, List.mem_map, List.not_mem_nil, or_false] at hy
    rcases hy with e | ⟨f, _, e⟩ | e | e <;> (subst e; intro z; cases z)
  refine ks_codeAny_call_defAt (fd := ksFn "__init__" qual (exArgs ps fp) (exSup txt q :: sp.map exSet) (exScope fs) .none kV doc pm an (.ref cda) ct cc) (body := exSup txt q :: sp.map exSet) (binds := ("self", .ref x) :: fs.zip us)
    hroom (X _ _ ho) rfl hlim (codeRec_of X hcd) rfl (hbind s (.ref x) us hl) hcellF hlocF (fun h₁ hns hk₁ => ?_) rfl rfl rfl
  have hxs := Heap.lt_size hx
  have X₁ : K.In h₁ := X.keeps hk₁
  have hx₁ := hk₁ _ _ hx
  have nsk : ∀ {b : Addr} {m : Str → Option Value}, s.heap.Ns b m → h₁.Ns b m := fun {b m} ⟨o, es, ep, e, r⟩ => ⟨o, es, ep, hk₁ _ _ e, r⟩
  have hall : ∀ p ∈ (("self" : Str), Value.ref x) :: fs.zip us, (fun y => ((("self" : Str), Value.ref x) :: fs.zip us).reverse.lookup y) p.1 = some p.2 := fun p hp => by
    refine lookup_mem ?_ (List.mem_reverse.mpr hp)
    rw [List.map_reverse]
    refine List.pairwise_reverse.mpr (List.Pairwise.imp (fun z => Ne.symm z) ?_)
    rw [List.map_cons, zip_fst hl]
    refine List.nodup_cons.mpr ⟨fun z => ?_, nD⟩
    have := (nF _ z).2
    simp at this
  have hmself : (fun y => ((("self" : Str), Value.ref x) :: fs.zip us).reverse.lookup y) ("self" : Str) = some (Value.ref x) := hall (("self" : Str), Value.ref x) List.mem_cons_self
  have hmf : ∀ p ∈ fs.zip us, (fun y => ((("self" : Str), Value.ref x) :: fs.zip us).reverse.lookup y) p.1 = some p.2 := fun p hp => hall p (List.mem_cons_of_mem _ hp)
  have I₁ : InstAt h₁ x (excO C t0) C none := ⟨hx₁, rfl, rfl, trivial⟩
  have hLx : s.heap.objs.size ≠ x := Nat.ne_of_gt hxs
  refine ks_wpAt_execs_cons ?_
  show _root_.PySem.wpAt _ _ _ (exec (exSup txt q) _) _ _ _
  unfold exSup
  refine ks_wpAt_Expr_any (at_meth hline fun pl => ?_)
  refine sup_node (C := C) (x := x) (m := fun y => ((("self" : Str), Value.ref x) :: fs.zip us).reverse.lookup y) X₁ hns (nsk G) (nsk hB) ((hmb _ (by decide)).trans (by first | rfl | kernel_rfl)) ho rfl hmself I₁ hcode hvs hfile hcell hcl T.mC T.sup (by decide) nS nC nX rfl T.htop (fun h₂ e₂ k₂ => ?_)
  have X₂ : K.In h₂ := X₁.keeps k₂
  have I₂ : InstAt h₂ x (excO C t0) C none := ⟨k₂ _ _ hx₁, rfl, rfl, trivial⟩
  have hsI := T.sI
  unfold ks_superIn at hsI
  rw [hcl, Option.bind_some] at hsI
  refine kxs_getMethod kxs_ValueError e₂ (looks_opaque X₂ T.op) (l₀ := .ref C :: bm) (fun A Q E s k q => wpAny_bind ((looks_clsIn X₂ hcl) A _ E s k (wpAny_pure q))) rfl X₂ hsI (I₂.type.andThen (looks_subIn X₂ T.sV)) (ks_ne X₂ I₂ hcl) (by decide) ?_
  dsimp only
  have k₃ : ∀ b o, h₂.get? b = some o → (h₂.push (kxs_mw "ValueError.__init__" x)).get? b = some o := fun b o e => Heap.get?_push_of_some _ e
  refine callWith_mw (x := x) ?_
  show wpAny _ _ (spliced [(false, eval (.Constant (.str txt) 0 q.q3) _)]) _ _ _
  refine spliced_cons (Calls.Constant_str (spliced_nil ⟨Heap.get?_push_at rfl rfl, ?_⟩))
  refine call_mw (k₃ _ _ (X₂ _ _ hC)) (k₃ _ _ (k₂ _ _ hx₁)) (Heap.get?_push_at rfl rfl) (one_size _) (fun h₄ t1 k₄ hx₄ => ?_)
  -- the fields
  have kk : ∀ b o, b ≠ x → h₁.get? b = some o → h₄.get? b = some o := fun b o hb e => k₄ b o hb (k₃ _ _ (k₂ _ _ e))
  have X₄ : K.In h₄ := fun b o e => kk b o (fun z => by rw [z, hnx] at e; cases e) (X₁ b o e)
  have hns₄ : h₄.Ns s.heap.objs.size (fun y => ((("self" : Str), Value.ref x) :: fs.zip us).reverse.lookup y) := by
    obtain ⟨oL, es, ep, hoL, r⟩ := hns
    exact ⟨oL, es, ep, kk _ _ hLx hoL, r⟩
  have old : ∀ b o, b ≠ x → s.heap.get? b = some o → h₄.get? b = some o := fun b o hb e => kk b o hb (hk₁ b o e)
  refine wpAt_of_wpAny ?_
  have SC : SetC K C := ⟨T.sa, _, hcl, hbm, rfl⟩
  cases sp with
  | nil =>
    refine wpAny_execs_nil (hq h₄ _ none ⟨old, ⟨t1, hx₄⟩, .inl ⟨hsp.symm, rfl⟩⟩)
  | cons f sp =>
    subst hsp
    cases us with
    | nil => cases hl
    | cons v us =>
      obtain ⟨hloc, hdbg⟩ := (nF f.1 (by simp)).1
      rw [List.map_cons]
      refine wpAny_execs_cons (plainObj_wpAny_Assign_Attribute ?_)
      refine exc_ld hns₄ (hmf (f.1, v) (by simp)) (exc_ld hns₄ hmself ?_ rfl nX (by decide)) rfl hloc hdbg
      refine set_plain X₄ (ox := excO C t1) (od := none) ⟨hx₄, rfl, rfl, trivial⟩ T.sa ?_
      refine exc_osa X₄ hx₄ hcl (show refsVE (.ref C :: bm) = true from hbm) rfl (T.noN f.1 (by simp)) (fun h₅ tk₅ dx k₅ dn dne hx₅ hn₅ => ?_)
      have hsz : s.heap.objs.size < h₄.objs.size := hns₄.lt
      refine sets_on SC (x := x) (t0 := t1) (dx := dx) (m := fun y => ((("self" : Str), Value.ref x) :: ((f :: sp).map (·.1)).zip (v :: us)).reverse.lookup y) rfl nX hmself sp us _ [f.1] ⟨h₅, _, _, tk₅, _⟩ (by simpa using hl) (by have := T.len; simp only [List.length_cons, List.length_map, List.length_nil] at this ⊢; omega)
        (fun y hy => ⟨(nF y.1 (by simp; exact .inr ⟨_, hy⟩)).1.1, (nF y.1 (by simp; exact .inr ⟨_, hy⟩)).1.2, T.noN y.1 (by simp; exact .inr ⟨_, hy⟩)⟩) (fun p hp => hmf p (by simp only [List.map_cons, List.zip_cons_cons]; exact List.mem_cons_of_mem _ hp))
        (fun b o e => k₅ b o (fun z => by rw [z, hnx] at e; cases e) (X₄ b o e)) ?_ (fun z => ?_) hx₅ (Ne.symm dne) hn₅ (Within.cons f.1 v Within.nil) (fun h₆ tk₆ k₆ hn₆ => ?_) (fun b o e => ?_)
      · obtain ⟨oL, es, ep, hoL, r⟩ := hns₄
        exact ⟨oL, es, ep, k₅ _ _ hLx hoL, r⟩
      · have dn' : h₄.objs.size ≤ dx := dn
        have z' : s.heap.objs.size = dx := z
        omega
      · have dn' : h₄.objs.size ≤ dx := dn
        refine hq h₆ tk₆ (some dx) ⟨fun b o hb e => k₆ b o ?_ (k₅ b o hb (old b o hb e)), ⟨t1, k₆ x _ (Ne.symm dne) hx₅⟩, .inr ⟨by simp, dx, rfl, by omega, dne, hn₆⟩⟩
        have hb1 : b < s.heap.objs.size := Heap.lt_size e
        exact Nat.ne_of_lt (Nat.lt_of_lt_of_le (Nat.lt_trans hb1 hsz) dn')
      · exact Nat.ne_of_lt (Nat.lt_of_lt_of_le (Heap.lt_size (X₄ b o e)) dn)

/-- a made exception -/
structure OwnMade (h h' : Heap) (e C : Addr) (od : Option Addr) (fs : List Str) (us : List Value) : Prop where
  keep : ∀ b o, h.get? b = some o → h'.get? b = some o
  new : h.objs.size ≤ e
  obj : ∃ t1, h'.get? e = some (excD C t1 od)
  dict : (fs = [] ∧ od = none) ∨ fs ≠ [] ∧ ∃ dx, od = some dx ∧ h.objs.size ≤ dx ∧ dx ≠ e ∧ h'.Ns1 dx (fmap fs us fun _ => none)

theorem ex_made {nm : Str} {fs : List Str} {s : Shared} {us : List Value} (T : ExTxt prog K mg C fI nm fs) (X : K.In s.heap) (hlim : s.heap.NoLimit) (G : s.heap.Ns mainGlobals mg) (hB : s.heap.Ns builtinsNs mb) (hmb : ∀ y : Str, y ≠ "__name__" → mb y = bootBuiltins y)
    (hroom : A.depth + 1 < recursionLimit) (hl : us.length = fs.length)
    (hq : ∀ h' tk e od, OwnMade s.heap h' e C od fs us → R (.ok (.ret (.ref e))) { s with heap := h', toks := tk }) :
    codeAny (model prog w) A (.call (.ref C) ⟨us, []⟩) R s := by
  obtain ⟨cn, cq, N, bs, bm, sn, sub, ab, col, dd, k0, k1, k2, k3, k5, hC, hbm⟩ := T.cls
  obtain ⟨hp, g, dr, tk, os⟩ := s
  have k : ∀ b o, hp.get? b = some o → ((hp.push (kdv_tup us)).push (excO C hp.objs.size)).get? b = some o := fun b o e => Heap.get?_push_of_some _ (Heap.get?_push_of_some _ e)
  have hget : ((hp.push (kdv_tup us)).push (excO C hp.objs.size)).get? (hp.objs.size + 1) = some (excO C hp.objs.size) := by heap_get
  have nsk : ∀ {b : Addr} {m : Str → Option Value}, hp.Ns b m → ((hp.push (kdv_tup us)).push (excO C hp.objs.size)).Ns b m := fun {b m} ⟨o, es, ep, e, r⟩ => ⟨o, es, ep, k _ _ e, r⟩
  have hnx : K.lookup (hp.objs.size + 1) = none := by
    cases e : K.lookup (hp.objs.size + 1) with
    | none => rfl
    | some o =>
      have z : hp.get? (hp.objs.size + 1) = some o := X _ _ e
      exact absurd (Nat.lt_of_succ_lt (Heap.lt_size z)) (Nat.lt_irrefl _)
  have hus : us.length ≤ sizeLine := by
    have := T.len
    rw [sizeLine_eq]
    omega
  refine call_own F.excBase_ValueError (fun X => refsVE_contains X bm hbm) (X _ _ hC) (looks_findIn X T.iC) (fun self => bind_fn X self T.tC) hus ?_
  refine ex_init (s := ⟨(hp.push (kdv_tup us)).push (excO C hp.objs.size), g, dr, tk, os⟩) T (X.keeps k) (hlim.keeps k) (nsk G) (nsk hB) hmb hget hnx ?_ hl fun h' tk' od I => ?_
  · show A.depth + 1 < recursionLimit
    exact hroom
  · have old : ∀ b o, hp.get? b = some o → h'.get? b = some o := fun b o e => I.keep b o (Nat.ne_of_lt (Nat.lt_succ_of_lt (Heap.lt_size e))) (k b o e)
    refine ⟨rfl, hq h' tk' (hp.objs.size + 1) od ⟨old, Nat.le_succ _, I.obj, ?_⟩⟩
    rcases I.dict with z | ⟨e0, dx, e1, e2, e3, e4⟩
    · exact .inl z
    · have z : hp.objs.size + 1 + 1 ≤ dx := by
        have q := e2
        rw [Heap.size_push, Heap.size_push] at q
        exact q
      exact .inr ⟨e0, dx, e1, Nat.le_trans (Nat.le_trans (Nat.le_succ _) (Nat.le_succ _)) z, e3, e4⟩
end
end RingX
end PySem

namespace L2
open PySem PySem.Spec PyProof.Rows PySem.RingX

/-! ### the fields of an exception -/
def xdl (fs : List Str) (vs : List V) : List (Str × V) := (fs.zip vs).reverse
theorem relO_fmap : ∀ (fs : List Str) (vs : List V) (us : List Value) (l0 : List (Str × V)) (m0 : Str → Option Value), vs.length = fs.length → Vals vs us → (∀ f, RelO (l0.lookup f) (m0 f)) → ∀ f, RelO (((fs.zip vs).reverse ++ l0).lookup f) (fmap fs us m0 f) := by
  intro fs
  induction fs with
  | nil =>
    intro vs us l0 m0 hl r h f
    cases r with
    | nil => exact h f
    | cons _ _ => cases hl
  | cons g fs ih =>
    intro vs us l0 m0 hl r h f
    cases r with
    | nil => cases hl
    | @cons v u vs us rv r =>
      have e : ((g :: fs).zip (v :: vs)).reverse ++ l0 = (fs.zip vs).reverse ++ ((g, v) :: l0) := by simp
      rw [e]
      exact ih vs us ((g, v) :: l0) _ (by simpa using hl) r (fun y => relO_put rv h y) f

section
variable {X : Cx} {C fI : Addr} {nm : Str} {fs : List Str}
/-- nm(a, ..), a class of exceptions with the fields fs -/
def tMkX (C : Addr) (fs : List Str) (ta : TA) : St → Hp → XK → Prop := fun σ H Q => ta σ H fun vs H1 => vs.length = fs.length ∧ (fs = [] → Q (.ref C) none H1) ∧ (fs ≠ [] → ∀ d, H1 d = none → Q (.ref C) (some d) (upd H1 d (.xd (xdl fs vs))))
theorem mkx_core {pins : List (Addr × Obj)} {σ : St} {H1 : Hp} {s1 : Shared} {vs : List V} {us : List Value} {Q : XK} {k : Nat} (T : ExTxt X.prog X.K X.mg C fI nm fs) (hr : Room k X.A) (I1 : Inv X pins σ H1 s1) (r1 : Vals vs us)
    (hq : vs.length = fs.length ∧ (fs = [] → Q (.ref C) none H1) ∧ (fs ≠ [] → ∀ d, H1 d = none → Q (.ref C) (some d) (upd H1 d (.xd (xdl fs vs))))) : wpAny (model X.prog X.w) X.A (call (.ref C) us) (MkP X pins σ Q) X.xe s1 := by
  obtain ⟨hl, q0, qd⟩ := hq
  have hlim := I1.nolimit
  obtain ⟨mb, hmb1, hmb2⟩ := I1.ok.mod.blt
  have hG := I1.ok.mod.glob.keeps I1.bk
  have hB := hmb1.keeps I1.bk
  have hlu : us.length = fs.length := by rw [← r1.length]; exact hl
  obtain ⟨hp, g, dr, tk, os⟩ := s1
  refine wpAny_call (ex_made T I1.kIn hlim hG hB hmb2 (by have := hr.dp; omega) hlu fun h' tk' e od M => ?_)
  show MkP X pins σ Q (.ref e) ⟨h', g, dr, tk', os⟩
  obtain ⟨t1, hoe⟩ := M.obj
  obtain ⟨G', g1, g2⟩ := restrict h' fun b => decide (b ≠ e)
  have gk : ∀ b, b ≠ e → G'.get? b = h'.get? b := fun b hb => g1 b (decide_eq_true hb)
  have ge : G'.get? e = none := g2 e (by simp)
  have old : ∀ b o, hp.get? b = some o → G'.get? b = some o := fun b o q => (gk b (Nat.ne_of_lt (Nat.lt_of_lt_of_le (Heap.lt_size q) M.new))).trans (M.keep b o q)
  have back : ∀ b o, G'.get? b = some o → h'.get? b = some o := fun b o q => by
    by_cases hb : b = e
    · rw [hb, ge] at q; cases q
    · exact (gk b hb).symm.trans q
  rcases M.dict with ⟨e1, e2⟩ | ⟨hfs, dx, e1, hdx, hne, hns⟩
  · subst e2
    have J : Inv X pins σ H1 ⟨G', g, dr, tk', os⟩ := I1.kept (t' := tk') old
    exact ⟨e, _, _, ⟨G', g, dr, tk', os⟩, _, .ref C, none, rfl, J, back, ge, hoe, ⟨rfl, rfl⟩, rfl, rfl, I1.hok.fresh M.new, rfl, I1.bare, raises_own T.exC T.tyC, q0 e1⟩
  · subst e1
    have rel : ∀ f, RelO ((xdl fs vs).lookup f) (fmap fs us (fun _ => none) f) := fun f => by
        have z := relO_fmap fs vs us [] (fun _ => none) hl r1 (fun _ => trivial) f
        rw [List.append_nil] at z
        exact z
    have ob : ObjOk X.prog X.w (upd H1 dx (.xd (xdl fs vs))) G' dx (.xd (xdl fs vs)) :=
        ⟨_, hns.at (fun o q => (gk dx hne).trans q), rel⟩
    have J : Inv X pins σ (upd H1 dx (.xd (xdl fs vs))) ⟨G', g, dr, tk', os⟩ := I1.laid (t' := tk') old hdx ob
    refine ⟨e, _, _, ⟨G', g, dr, tk', os⟩, _, .ref C, some dx, rfl, J, back, ge, hoe, ⟨rfl, rfl⟩, rfl, rfl, ?_, rfl, I1.bare, raises_own T.exC T.tyC, qd hfs dx (I1.hok.fresh hdx)⟩
    rw [upd_ne (Ne.symm hne)]
    exact I1.hok.fresh M.new
theorem pmk_ex {a : Expr} {as : List Expr} {ta : TA} {p pos : Pos} {k : Nat} (T : ExTxt X.prog X.K X.mg C fI nm fs) (hr : Room k X.A) (ha : PA X (a :: as) ta) (hg : Gl X nm := by rfl) (hdb : (nm == ("__debug__" : Str)) = false := by decide)
    (he : starEach (a :: as) X.env = (false, eval a X.env) :: starEach as X.env := by rfl) (hpl : (backTo pos (starEach as X.env)).any (·.1) = false := by rfl) :
    PMk X (.Call (.Name nm p) (a :: as) [] pos) (tMkX C fs ta) := by
  intro pins s σ H Q I h
  refine wpAny_Call_Name_kw (ld_glob I hg T.gC ?_ hdb)
  refine PySem.W.callWith_K (h₀ := X.base) I.ok.mod.kin T.kC (thn (ha.run pos pins s σ H _ I h) fun us s1 hh => ?_) he hpl
  obtain ⟨vs, H1, I1, r1, q1⟩ := hh
  exact ⟨I1.kIn, mkx_core T hr I1 r1 q1⟩
theorem pmk_ex0 {p pos : Pos} {k : Nat} (T : ExTxt X.prog X.K X.mg C fI nm fs) (hr : Room k X.A) (hg : Gl X nm := by rfl) (hdb : (nm == ("__debug__" : Str)) = false := by decide) :
    PMk X (.Call (.Name nm p) [] [] pos) (tMkX C fs tNil) := by
  intro pins s σ H Q I h
  refine wpAny_Call_Name_kw (ld_glob I hg T.gC ?_ hdb)
  exact PySem.W.callWith_K0 I.kIn T.kC (mkx_core (us := []) T hr I .nil h)
/-- raise nm(a, ..) -/
def tRaiseX (C : Addr) (fs : List Str) (W : WX) (ta : TA) : TS := fun _ σ H => tMkX C fs ta σ H fun cls d H' => W cls d σ H'
theorem ps_raiseX {a : Expr} {as : List Expr} {ta : TA} {W : WX} {p pos pos2 : Pos} {k : Nat} (hc : X.calm = true) (T : ExTxt X.prog X.K X.mg C fI nm fs) (hr : Room k X.A) (tk : Takes X W) (ha : PA X (a :: as) ta) (hg : Gl X nm := by rfl) (hdb : (nm == ("__debug__" : Str)) = false := by decide)
    (he : starEach (a :: as) X.env = (false, eval a X.env) :: starEach as X.env := by rfl) (hpl : (backTo pos (starEach as X.env)).any (·.1) = false := by rfl) :
    PS X (.Raise (some (.Call (.Name nm p) (a :: as) [] pos)) none pos2) (tRaiseX C fs W ta) := ps_raise hc tk (pmk_ex T hr ha hg hdb he hpl)
theorem ps_raiseX0 {W : WX} {p pos pos2 : Pos} {k : Nat} (hc : X.calm = true) (T : ExTxt X.prog X.K X.mg C fI nm fs) (hr : Room k X.A) (tk : Takes X W) (hg : Gl X nm := by rfl) (hdb : (nm == ("__debug__" : Str)) = false := by decide) :
    PS X (.Raise (some (.Call (.Name nm p) [] [] pos)) none pos2) (tRaiseX C fs W tNil) := ps_raise hc tk (pmk_ex0 T hr hg hdb)
end

/-! ### several clauses, with and without names -/
/-- behind a suite with a name (slot i): the slot is empty -/
def gone (i : Nat) (D : Ends) : Ends := { nx := fun σ H => D.nx (σ.set i none) H, rt := D.rt, bk := fun σ H => D.bk (σ.set i none) H, ct := fun σ H => D.ct (σ.set i none) H }
/-- a clause: its class, its name's slot, its suite's reading -/
structure Clause where
  c : Value
  i : Option Nat
  ts : Addr → Value → Option Addr → TS
def wCl (K : PySem.W.Frag) (Wout : WX) (D : Ends) : List Clause → WX
  | [] => Wout
  | q :: r => fun cls d σ H => ∃ b, PySem.W.exmOne K cls q.c = some b ∧ (b = true → ∀ a, H a = none → match q.i with | none => q.ts a cls d D σ H | some i => q.ts a cls d (gone i D) (σ.set i (some (.ref a))) H) ∧ (b = false → wCl K Wout D r cls d σ H)
inductive ClsOk (X : Cx) : List ExceptHandler → List Clause → Prop
  | nil : ClsOk X [] []
  | plain {x : Str} {c : Value} {ts : Addr → Value → Option Addr → TS} {b₀ : Stmt} {suite : List Stmt} {np pos' : Pos} {hds : List ExceptHandler} {l : List Clause} (hc : Names X x c)
      (hsu : ∀ (a : Addr) (oe : Obj) (cls : Value) (d : Option Addr) (pn : List (Addr × Obj)), Zc cls d oe → (∃ vs, oe.data = .fields vs) → X.base.get? a = none → PSs (X.suite a ((a, oe) :: pn)) (b₀ :: suite) (ts a cls d)) (r : ClsOk X hds l) :
      ClsOk X (.ExceptHandler (some (.Name x np)) none (b₀ :: suite) pos' :: hds) (⟨c, none, ts⟩ :: l)
  | named {x n : Str} {c : Value} {i : Nat} {ts : Addr → Value → Option Addr → TS} {b₀ : Stmt} {suite : List Stmt} {np pos' : Pos} {hds : List ExceptHandler} {l : List Clause} (hi : X.N[i]? = some n) (hln : X.env.kindOf n = some .local) (hc : Names X x c)
      (hsu : ∀ (a : Addr) (oe : Obj) (cls : Value) (d : Option Addr) (pn : List (Addr × Obj)), Zc cls d oe → (∃ vs, oe.data = .fields vs) → X.base.get? a = none → PSs (X.suite a ((a, oe) :: pn)) (b₀ :: suite) (ts a cls d)) (r : ClsOk X hds l) :
      ClsOk X (.ExceptHandler (some (.Name x np)) (some n) (b₀ :: suite) pos' :: hds) (⟨c, some i, ts⟩ :: l)
section
variable {X : Cx} {body : List Stmt} {h₀ : ExceptHandler} {hds : List ExceptHandler} {l : List Clause} {pos : Pos} {tb : WX → TS} {Wout : WX}
theorem SP.ofTry {pins : List (Addr × Obj)} {xe : Value → Shared → Prop} {D : Ends} (ok : X.Ok) {f : Flow} {s1 : Shared} (h : SP (X.tr (X.pn ++ pins) xe) [] D f s1) : SP X pins D f s1 := by
  cases f with
  | next => obtain ⟨σ', H', J', q⟩ := h; exact ⟨σ', H', J'.ofTry ok, q⟩
  | brk => obtain ⟨σ', H', J', q⟩ := h; exact ⟨σ', H', J'.ofTry ok, q⟩
  | cont => obtain ⟨σ', H', J', q⟩ := h; exact ⟨σ', H', J'.ofTry ok, q⟩
  | ret u => obtain ⟨v, σ', H', J', r, q⟩ := h; exact ⟨v, σ', H', J'.ofTry ok, r, q⟩
theorem ps_try_cl (hs : X.stack = X.env :: X.outer) (hf : X.env.frame = some X.env.locals) (hN : X.N.Nodup) (tk : Takes X Wout)
    (hb : ∀ (W : WX) (pn : List (Addr × Obj)) (xe : Value → Shared → Prop), Takes (X.tr pn xe) W → PassesOwn (model X.prog X.w) X.A X.env xe → PSs (X.tr pn xe) body (tb W))
    (hh : ClsOk X (h₀ :: hds) l) : PS X (.Try body (h₀ :: hds) [] [] pos) (fun D σ H => tb (wCl X.K Wout D l) D σ H) := by
  refine ⟨fun pins s σ H D I h => wpAny_Try_except ?_⟩
  have ok := I.ok
  have hfr : X.A.frames = some (X.env :: X.outer) := by rw [ok.frames, hs]
  refine wpAny_mono ((hb (wCl X.K Wout D l) (X.pn ++ pins) (fun e s₁ => wpAny (model X.prog X.w) X.A (noteFrame e X.env) (fun _ s₂ => wpAny (model X.prog X.w) X.A (setFlight e none) (fun _ s₃ =>
    wpAny (model X.prog X.w) X.A (handleBy e X.env (h₀ :: hds)) (SP X pins D) X.xe s₃) X.xe s₂) X.xe s₁) (fun u s' xx => ?_) PassesOwn.looking).run [] s σ H D (I.toTry _) h) (fun f s1 hsp => ?_) (fun e s1 he => he)
  · obtain ⟨a, B, sI, pins', σ', H', cls, d, rfl, J', nb, up, sky, na, os, ag, w⟩ := xx
    have J : Inv X pins σ' H' sI := J'.ofTry ok
    rw [hs] at sky
    refine Sky.land Zc.steady hfr hf sky fun h3 fl3 up3 => ?_
    have J3 : Inv X pins σ' H' { s' with heap := h3 } := J.landed nb fl3.1 (up.trans up3) os ag
    obtain ⟨oe3, vs3, he3, hz3, hd3⟩ := fl3.there
    have nfr : a ∉ frs (X.env :: X.outer) := fun hm => by
      obtain ⟨_, o', e', hnf⟩ := fl3.2.2.1.mem hm
      rw [he3] at e'; cases e'
      exact hnf _ hd3
    have nL : a ≠ X.env.locals := fun z => nfr (List.mem_filterMap.mpr ⟨X.env, List.mem_cons_self, by rw [hf, z]⟩)
    have nF : a ∉ X.fs := fun hm => by
      obtain ⟨e, he, q⟩ := List.mem_filterMap.mp hm
      exact nfr (List.mem_filterMap.mpr ⟨e, List.mem_cons_of_mem _ he, q⟩)
    have nbase : X.base.get? a = none := by
      cases q : X.base.get? a with
      | none => rfl
      | some o =>
        have z := nb a o (J.bs a o q).1 (by rw [hs]; exact nfr)
        rw [fl3.2.1] at z
        cases z
    have S3 := J3.suite he3 hd3 na nL nF
    have LT : PySem.W.Looks (model X.prog X.w) h3 (typeOf (.ref a)) cls := fun A Q E s k q => wpAny_typeOf_ref (k _ _ he3) (by rw [hz3.1]; exact q)
    have test : ∀ {x : Str} {c : Value} {np : Pos} {Q : Value → Shared → Prop} {E : Value → Shared → Prop}, Names X x c → Q c { s' with heap := h3 } → wpAny (model X.prog X.w) (X.A.mark (some (.ref a))) (eval (.Name x np) X.env) Q E { s' with heap := h3 } := fun {x c np Q E} hc q => by
      obtain ⟨hg, hdbg, hm | ⟨hm, hv, hnn⟩⟩ := hc
      · exact ld_glob (X := X.suite a ((a, oe3) :: (X.pn ++ pins))) S3 hg hm q hdbg
      · exact ld_blt (X := X.suite a ((a, oe3) :: (X.pn ++ pins))) S3 hg hm hv q hnn hdbg
    have go : ∀ {hds' : List ExceptHandler} {l' : List Clause}, ClsOk X hds' l' → wCl X.K Wout D l' cls d σ' H' →
        wpAny (model X.prog X.w) X.A (handleBy (.ref a) X.env hds') (SP X pins D) X.xe { s' with heap := h3 } := by
      intro hds' l' hk
      induction hk with
      | nil =>
        intro w
        refine wpAny_handleBy_nil ?_
        obtain ⟨k1, k2, k3, oe, vs, T, oT, ts', he, hz, hd, h1, hr⟩ := id fl3
        unfold PySem.passOn
        refine wpAny_bind (wpAny_field he hd h1 ?_)
        rw [if_neg (show ¬ ((Value.ref T == Value.none) = true) from by simp)]
        have fin : wpAny (model X.prog X.w) X.A (setFlight (.ref a) X.env.frame) (fun _ s4 => wpAny (model X.prog X.w) X.A (throw (.ref a) : Sem Flow) (SP X pins D) X.xe s4) X.xe { s' with heap := h3 } := by
          rw [hf]
          refine HandSPX.setFlight_upZ fl3 fun h4 hh4 up4 => wpAny_throw (tk _ _ ?_)
          exact ⟨a, B, sI, pins, σ', H', cls, d, rfl, J, nb, (up.trans up3).trans up4, .inr (.inr (by rw [hs]; exact hh4)), na, os, ag, w⟩
        first
          | exact wpAny_bind (wpAny_pure (wpAny_bind fin))
          | exact wpAny_bind fin
      | @plain x c ts b₀ suite np pos' hds2 l2 hc hsu r ih =>
        intro w
        obtain ⟨b, hb1, hyes, hno⟩ := w
        refine wpAny_handleBy_cons (codeAny_handlers_test (test hc ?_)) (by intro q; cases q)
        have LM := PySem.W.exm_one (M := model X.prog X.w) (J3.kIn) LT hb1
        refine LM.here ?_
        cases b with
        | false => exact ih (hno rfl)
        | true =>
          refine codeAny_handlers_suite (HandSPX.lands_againZ fl3 fun h4 fl4 up4 => ?_)
          have J4 : Inv X pins σ' H' { s' with heap := h4 } := J.landed nb fl4.1 ((up.trans up3).trans up4) os ag
          obtain ⟨oe4, vs4, he4, hz4, hd4⟩ := fl4.there
          have S4 := J4.suite he4 hd4 na nL nF
          refine wpAny_mono ((hsu a oe4 cls d (X.pn ++ pins) hz4 ⟨_, hd4⟩ nbase).run [] _ _ H' _ S4 (hyes rfl a na)) (fun f s6 hsp => ?_) (fun _ _ z => False.elim z)
          cases f with
          | next => obtain ⟨σ6, H6, S6, q6⟩ := hsp; exact ⟨_, _, S6.unsuite ok, q6⟩
          | brk => obtain ⟨σ6, H6, S6, q6⟩ := hsp; exact ⟨_, _, S6.unsuite ok, q6⟩
          | cont => obtain ⟨σ6, H6, S6, q6⟩ := hsp; exact ⟨_, _, S6.unsuite ok, q6⟩
          | ret u => obtain ⟨v6, σ6, H6, S6, r6, q6⟩ := hsp; exact ⟨_, _, _, S6.unsuite ok, r6, q6⟩
      | @named x n c i ts b₀ suite np pos' hds2 l2 hi hln hc hsu r ih =>
        intro w
        obtain ⟨b, hb1, hyes, hno⟩ := w
        refine wpAny_handleBy_cons (codeAny_handlers_test (test hc ?_)) (by intro q; cases q)
        have LM := PySem.W.exm_one (M := model X.prog X.w) (J3.kIn) LT hb1
        refine LM.here ?_
        cases b with
        | false => exact ih (hno rfl)
        | true =>
          refine codeAny_handlers_suite_as (HandSPX.lands_againZ fl3 fun h4 fl4 up4 => ?_)
          have J4 : Inv X pins σ' H' { s' with heap := h4 } := J.landed nb fl4.1 ((up.trans up3).trans up4) os ag
          obtain ⟨oe4, vs4, he4, hz4, hd4⟩ := fl4.there
          have S4 := J4.suite he4 hd4 na nL nF
          refine store_ok (X := X.suite a ((a, oe4) :: (X.pn ++ pins))) (v := .ref a) S4 hN hi (.inl hln) rfl (fun s5 S5 => ?_) (.inr hln)
          refine wpAny_mono ((hsu a oe4 cls d (X.pn ++ pins) hz4 ⟨_, hd4⟩ nbase).run [] s5 _ H' _ S5 (hyes rfl a na)) (fun f s6 hsp => ?_) (fun _ _ z => False.elim z)
          have end_ : ∀ {σ6 : St} {H6 : Hp} {Q : Shared → Prop}, Inv (X.suite a ((a, oe4) :: (X.pn ++ pins))) [] σ6 H6 s6 → (∀ s7, Inv X pins (σ6.set i none) H6 s7 → Q s7) →
              wpAny (model X.prog X.w) X.A (do bindName X.env n .none; unbindBehindTheSuite X.env n pos') (fun _ s7 => Q s7) X.xe s6 := fun {σ6 H6 Q} S6 hq => gone_ok (S6.unsuite ok) hN hi hln hq
          cases f with
          | next => obtain ⟨σ6, H6, S6, q6⟩ := hsp; exact end_ S6 fun s7 J7 => ⟨_, _, J7, q6⟩
          | brk => obtain ⟨σ6, H6, S6, q6⟩ := hsp; exact end_ S6 fun s7 J7 => ⟨_, _, J7, q6⟩
          | cont => obtain ⟨σ6, H6, S6, q6⟩ := hsp; exact end_ S6 fun s7 J7 => ⟨_, _, J7, q6⟩
          | ret u => obtain ⟨v6, σ6, H6, S6, r6, q6⟩ := hsp; exact end_ S6 fun s7 J7 => ⟨_, _, _, J7, r6, q6⟩
    exact go hh w
  · have z := SP.ofTry ok hsp
    cases f with
    | next => obtain ⟨σ', H', J', q⟩ := z; exact wpAny_execs_nil ⟨σ', H', J', q⟩
    | brk => exact z
    | cont => exact z
    | ret u => exact z
end
end L2

namespace L2
open PySem PySem.Spec PyProof.Rows PySem.RingX

/-- a caught exception, while a def looks at it -/
abbrev errO (a : Addr) (oe : Obj) : HO := .frz oe (.ext fun h => h.get? a = some oe)
theorem errO_ne {a : Addr} {oe : Obj} {o : HO} (h : ∀ q u, o ≠ .frz q u) : errO a oe ≠ o := fun z => h _ _ z.symm

/-- the dict of a caught exception, if it has one, is tracked -/
def DictAt (H : Hp) (d : Option Addr) : Prop := d = none ∨ ∃ dd l, d = some dd ∧ H dd = some (.xd l)
theorem DictAt.get {P : Program} {w : World} {H : Hp} {h : Heap} {d : Option Addr} (D : DictAt H d) (hok : HOk P w H h) {a C : Addr} {oe : Obj} (ha : h.get? a = some oe) (hz : Zc (.ref C) d oe) (hf : ∃ vs, oe.data = .fields vs) : ∃ od, PySem.W.InstAt h a oe C od := by
  obtain ⟨vs, hv⟩ := hf
  have no : PySem.W.notCls oe = true := by unfold PySem.W.notCls; rw [hv] <;> rfl
  rcases D with e | ⟨dd, l, e, q⟩
  · exact ⟨none, ha, hz.1, no, by rw [hz.2, e]; trivial⟩
  · obtain ⟨mA, ⟨o, es, ep, ho, _⟩, _⟩ := (show ObjOk P w H h dd (.xd l) from hok dd _ q)
    exact ⟨some o, ha, hz.1, no, by rw [hz.2, e]; exact ho⟩

section
variable {X : Cx} {pins : List (Addr × Obj)} {σ : St} {H : Hp} {s : Shared}
theorem is_exc {C a : Addr} {oe : Obj} {od : Option Obj} {cv : Value} {b : Bool} {Q : Value → Shared → Prop} {A : Around} {E : Value → Shared → Prop} (K : ExcC X.K C) (X1 : X.K.In s.heap) (J : PySem.W.InstAt s.heap a oe C od) (e : PySem.W.kitOne X.K (.ref C) cv = some b)
    (h : ∀ tk, Q (.bool b) { s with toks := tk }) : wpAny (model X.prog X.w) A (call (.builtin "isinstance") [.ref a, cv]) Q E s :=
  PySem.W.kia_one (PySem.W.kitx_exc (od := od) (by obtain ⟨cd, hc, _⟩ := PySem.W.any_some K.hd; rw [hc]; rfl) K.hg K.hk K.hs K.ha K.hn K.ht K.hm) X1 J e (fun z => nomatch z) h
end

/-- isinstance(e, c), e the exception that the suite holds: cls its class, d its dict -/
def rIsX (K : PySem.W.Frag) (a : Addr) (cls : Value) (d : Option Addr) : List V → Hp → VK → Prop := fun xs H Q => ∃ (c : V) (cv : Value) (C : Addr) (b : Bool), xs = [.ref a, c] ∧ cls = .ref C ∧ ExcC K C ∧ DictAt H d ∧ ClsV c cv ∧ PySem.W.kitOne K (.ref C) cv = some b ∧ Q (.bl b) H
theorem call_isX {X : Cx} {a : Addr} {oe : Obj} {cls : Value} {d : Option Addr} {pn : List (Addr × Obj)} (hz : Zc cls d oe) (hf : ∃ vs, oe.data = .fields vs) : CallR (X.suite a ((a, oe) :: pn)) (.builtin "isinstance") (rIsX X.K a cls d) := by
  intro pins s σ H xs us Q I r h
  obtain ⟨c, cv, C, b, rfl, rfl, K, D, k, e, q⟩ := h
  obtain ⟨u1, u2, rfl, r1, r2⟩ := vals2 r
  cases (show u1 = Value.ref a from r1)
  have e2 := k.eq r2
  subst e2
  obtain ⟨hget, _⟩ := I.pin (a, oe) (List.mem_append.mpr (.inl List.mem_cons_self))
  obtain ⟨od, J⟩ := D.get I.hok hget hz hf
  exact is_exc (X := X) K I.kIn J e fun tk => ⟨.bl b, H, I.tok tk, rfl, q⟩
/-- the same in a def that is handed the exception -/
def rIsA (K : PySem.W.Frag) : List V → Hp → VK → Prop := fun xs H Q => ∃ (a C : Addr) (oe : Obj) (d : Option Addr) (c : V) (cv : Value) (b : Bool), xs = [.ref a, c] ∧ H a = some (errO a oe) ∧ Zc (.ref C) d oe ∧ (∃ vs, oe.data = .fields vs) ∧ ExcC K C ∧ DictAt H d ∧ ClsV c cv ∧ PySem.W.kitOne K (.ref C) cv = some b ∧ Q (.bl b) H
theorem call_isA {X : Cx} : CallR X (.builtin "isinstance") (rIsA X.K) := by
  intro pins s σ H xs us Q I r h
  obtain ⟨a, C, oe, d, c, cv, b, rfl, ha, hz, hf, K, D, k, e, q⟩ := h
  obtain ⟨u1, u2, rfl, r1, r2⟩ := vals2 r
  cases (show u1 = Value.ref a from r1)
  have e2 := k.eq r2
  subst e2
  obtain ⟨hget, _⟩ := (show ObjOk X.prog X.w H s.heap a (errO a oe) from I.hok a _ ha)
  obtain ⟨od, J⟩ := D.get I.hok hget hz hf
  exact is_exc (X := X) K I.kIn J e fun tk => ⟨.bl b, H, I.tok tk, rfl, q⟩

/-! ### a def that is handed the exception which the suite holds -/
section
variable {X : Cx} {pins pn : List (Addr × Obj)} {σ : St} {H : Hp} {s : Shared} {a : Addr} {oe : Obj}
theorem track_ok {P : Program} {w : World} {h : Heap} (hok : HOk P w H h) (ha : h.get? a = some oe) (na : H a = none) : HOk P w (upd H a (errO a oe)) h := fun b o q => by
  by_cases hb : b = a
  · subst hb
    rw [upd_same] at q
    cases q
    exact ⟨ha, ha, ⟨_, ha⟩, fun h1 h2 z k => k _ z⟩
  · rw [upd_ne hb] at q
    exact (hok b o q).stay (fun c v _ z => z) (fun c z => by rw [upd_ne (ne_of_none z na)]; exact z) fun c xs z => by rw [upd_ne (ne_of_none z na)]; exact z
theorem untrack_ok {P : Program} {w : World} {h : Heap} (hok : HOk P w H h) (ha : H a = some (errO a oe)) : HOk P w (del H a) h := fun b o q => by
  have hb : b ≠ a := fun z => by rw [z, del_same] at q; cases q
  rw [del_ne hb] at q
  refine (hok b o q).stay (fun c v _ z => z) (fun c z => ?_) fun c xs z => ?_
  · rw [del_ne (ne_of z ha (fun y => nomatch y))]
    exact z
  · rw [del_ne (ne_of z ha (fun y => nomatch y))]
    exact z
theorem untrack_un {fs : List Addr} {H2 : Hp} {h h2 : Heap} {P : Program} {w : World} (na : H a = none) (ha : h.get? a = some oe) (hok : HOk P w H2 h2) (u : Un fs [] (upd H a (errO a oe)) H2 h h2) : Un fs [] H (del H2 a) h h2 := by
  have h2a : H2 a = some (errO a oe) := u.frzs a _ _ upd_same
  have ga : h2.get? a = some oe := (hok a _ h2a).1
  have up : ∀ {b : Addr}, b ≠ a → H b = none → upd H a (errO a oe) b = none := fun {b} hb n => by rw [upd_ne hb]; exact n
  refine ⟨fun b o e n hf hx => ?_, fun b o e n hf hx => ?_, fun b o e n hx => ?_, fun b o e hx => u.there b o e hx, fun b xs q => ?_, fun b o v q => ?_, fun b ps q => ?_⟩
  · by_cases hb : b = a
    · subst hb
      rw [ha] at e
      cases e
      exact ga
    · exact u.keep b o e (up hb n) hf hx
  · by_cases hb : b = a
    · subst hb
      rw [ha] at e
      cases e
      exact ⟨_, ga⟩
    · exact u.slot b o e (up hb n) hf hx
  · by_cases hb : b = a
    · rw [hb]
      exact del_same
    · rw [del_ne hb]
      exact u.free b o e (up hb n) hx
  · have hb := ne_of_none q na
    rw [del_ne hb]
    exact u.tups b xs (by rw [upd_ne hb]; exact q)
  · have hb := ne_of_none q na
    rw [del_ne hb]
    exact u.frzs b o v (by rw [upd_ne hb]; exact q)
  · have hb := ne_of_none q na
    obtain ⟨m, e⟩ := u.tbls b ps (by rw [upd_ne hb]; exact q)
    exact ⟨m, by rw [del_ne hb]; exact e⟩
end
theorem noX {P : Program} {w : World} {outer : List Env} (H : Hp) (s : Shared) (e : Value) (s' : Shared) : ¬ L2.CX P w outer H s E0 e s' := fun ⟨_, _, _, _, _, _, _, _, _, _, _, _, z⟩ => z
theorem no0 {outer : List Env} (H : Hp) (s : Shared) (e : Value) (s' : Shared) : ¬ CX0 outer H s E0 e s' := fun z => z
end L2

namespace L2
open PySem PySem.Spec PyProof.Rows PySem.RingX
/-! ### a def that is called while an exception is handled, and lets nothing out -/
structure RoomS (k : Nat) (A : Around) : Prop where
  dp : A.depth + 3 * k + 5 < recursionLimit
  un : A.units + 16 * k + 200 < cLine
theorem RoomS.of {k : Nat} {A : Around} (r : Room k A) (h : Option Value) : RoomS k (A.mark h) := ⟨r.dp, r.un⟩
theorem RoomS.mono {j k : Nat} {A : Around} (r : RoomS k A) (h : j ≤ k) : RoomS j A := ⟨by have := r.dp; omega, by have := r.un; omega⟩
theorem RoomS.deeper {k : Nat} {A : Around} (r : RoomS (k + 1) A) (env : Env) : RoomS k (A.deeper env) :=
  ⟨by have := r.dp; show A.depth + 1 + 3 * k + 5 < _; omega, by have := r.un; show A.units + 3 + 16 * k + 200 < _; omega⟩
structure FnS (P : Program) (w : World) (K : PySem.W.Frag) (mg : Str → Option Value) (base : Heap) (k : Nat) (f : Addr) (fd : FuncData) (ps : List Str) (sp : Sp) : Prop where
  len : ∀ vs H Q E, sp vs H Q E → vs.length = ps.length
  run : ∀ (A : Around) (outer : List Env) (s : Shared) (H : Hp) (args : Args) (us : List Value) (vs : List V) (Q : VK), RoomS k A → Env0 P w K mg base A outer s H → BindsTo s fd args (ps.zip us) → Vals vs us → sp vs H Q E0 →
    codeAny (model P w) A (.call (.ref f) args) (CR CX0 outer P w H s Q E0) s
/-- such a def's context -/
def cxS (P : Program) (w : World) (K : PySem.W.Frag) (mg : Str → Option Value) (base : Heap) (N : List Str) (qual : Str) (scope : Scope) (f : Addr) (cd : Value) (A : Around) (outer : List Env) (s : Shared) (H : Hp) : Cx :=
  { cxOf CX0 P w K mg base N qual scope f cd A outer s H E0 with calm := false, xe := fun _ _ => False }
theorem Fun.okS {P : Program} {w : World} {K : PySem.W.Frag} {mg : Str → Option Value} {base : Heap} {x qual : Str} {st : Stmt} {f : Addr} {fd : FuncData} {N ps : List Str} {k : Nat} {sp : Sp} (F : Fun K x qual st f fd) (S : FnScope N ps (defScope st)) (len : ∀ vs H Q E, sp vs H Q E → vs.length = ps.length)
    (hbody : ∀ (cdv : Value) (A : Around) (outer : List Env) (s : Shared) (H : Hp) (vs : List V) (Q : VK), RoomS k (A.deeper (envOfC qual (defScope st) s.heap.objs.size f cdv)) → sp vs H Q E0 →
      ∃ t, PSs (cxS P w K mg base N qual (defScope st) f cdv A outer s H) (defBody st) t ∧ t { nx := fun _ H' => Q .non H', rt := Q } (start N vs) H) : FnS P w K mg base (k + 1) f fd ps sp := by
  obtain ⟨oc, od, kV, doc, pm, an, cdv, ct, osl, rfl, lk, hcd⟩ := F.ex
  refine ⟨len, fun A outer s H args us vs Q hr e0 hb r hsp => ?_⟩
  have hl := len _ _ _ _ hsp
  have KX : K.In s.heap := e0.mod.kin.keeps fun b o e => (e0.bs b o e).1
  have lim : s.heap.NoLimit := e0.mod.nolimit.keeps fun b o e => (e0.bs b o e).1
  have hkind : ∀ y ∈ ps.zip us, (defScope st).names.lookup y.1 = some .local ∨ ((defScope st).names.lookup y.1 = some .cell ∧ ((cellsFrom (s.heap.objs.size + 1) (defScope st).names []).lookup y.1).isSome = true) := fun ⟨n, v⟩ hy =>
    (S.par n (List.of_mem_zip hy).1).elim .inl fun q => .inr ⟨q, PySem.W.cellsFrom_some _ _ _ (.inl q)⟩
  refine codeAny_call_function (by have := hr.dp; omega) (KX _ _ lk) rfl S.co S.gen rfl (PySem.W.codeRec_of KX hcd) (hb _ _ _ _ ?_)
  refine wpAny_newFunctionEnv_cells S.kind hkind fun env he s1 y => ?_
  subst he
  refine ⟨lim.keeps y.toInCall.keep, codeAny_func ?_⟩
  obtain ⟨t, ht, hq⟩ := hbody cdv A outer s H vs Q (hr.deeper _) hsp
  have e1 : Env0 P w K mg base { A with handled := none } outer s H := ⟨e0.frames, e0.mod, e0.bs, e0.bsz, e0.funs, e0.frf, e0.hok, e0.bare⟩
  have I0 : Inv (cxOf CX0 P w K mg base N qual (defScope st) f cdv { A with handled := none } outer s H E0) [] (start N vs) H s1 := inv_start S rfl e1 hl r y
  have I : Inv (cxS P w K mg base N qual (defScope st) f cdv A outer s H) [] (start N vs) H s1 :=
    ⟨⟨I0.ok.mod, I0.ok.kind, I0.ok.glob, I0.ok.blt, I0.ok.above, I0.ok.inj, I0.ok.has, I0.ok.cab, (fun z => Bool.noConfusion (show false = true from z)), I0.ok.frames, I0.ok.stk, I0.ok.exf, I0.ok.bs, I0.ok.bsz, I0.ok.noex, I0.ok.exfs, I0.ok.funs, I0.ok.frf⟩,
      I0.os, I0.bare, I0.base, I0.loc, I0.cell, I0.free, I0.freeC, I0.pin, I0.hok, I0.len⟩
  refine wpAny_mono (ht.run [] s1 (start N vs) H _ I hq) (fun fl s' hs => ?_) fun e s' hs => False.elim hs
  have fin : ∀ {σ' : St} {H' : Hp} {v : V} {u : Value}, Inv (cxS P w K mg base N qual (defScope st) f cdv A outer s H) [] σ' H' s' → RelV v u → Q v H' → CE outer P w H s Q u s' :=
    fun {σ' H' v u} J rv q => ⟨v, H', J.os, J.bare, J.base, J.hok, rv, q⟩
  cases fl with
  | ret u => obtain ⟨v, σ', H', J, rv, q⟩ := hs; exact fin J rv q
  | next => obtain ⟨σ', H', J, q⟩ := hs; exact fin (v := V.non) (u := Value.none) J rfl q
  | brk => obtain ⟨_, _, _, q⟩ := hs; exact False.elim q
  | cont => obtain ⟨_, _, _, q⟩ := hs; exact False.elim q

/-- f(e, ..) in a suite; the def is handed the exception at a as an object that it may look at -/
def tCallE (a : Addr) (cls : Value) (d : Option Addr) (sp : Sp) (t : TA) : TE := fun σ H Q => t σ H fun vs H1 => ∀ oe, Zc cls d oe → (∃ vs, oe.data = .fields vs) → H1 a = none → sp vs (upd H1 a (errO a oe)) (fun v H2 => Q v (del H2 a)) E0
section
variable {X : Cx} {k : Nat} {f : Addr} {fd : FuncData} {ps : List Str} {sp : Sp} {x : Str} {p pos : Pos} {e : Expr} {es : List Expr} {t : TA} {a : Addr} {oe : Obj} {cls : Value} {d : Option Addr} {pn : List (Addr × Obj)}
theorem pe_callE (hbase : X.base.get? a = none) (hz : Zc cls d oe) (hfd : ∃ vs, oe.data = .fields vs) (F : FnS X.prog X.w X.K X.mg X.base k f fd ps sp) (hr : Room k X.A) (hg : Gl X x) (hm : X.mg x = some (.ref f)) (hk : PySem.W.keepIn X.K (.ref f) = true) (hb : Binds X.K fd ps [])
    (ha : PA (X.suite a ((a, oe) :: pn)) (e :: es) t) (hdb : (x == ("__debug__" : Str)) = false := by decide)
    (he : starEach (e :: es) X.env = (false, eval e X.env) :: starEach es X.env := by rfl) (hpl : (backTo pos (starEach es X.env)).any (·.1) = false := by rfl) :
    PE (X.suite a ((a, oe) :: pn)) (.Call (.Name x p) (e :: es) [] pos) (tCallE a cls d sp t) := by
  refine ⟨fun pins s σ H Q I h => ?_⟩
  refine wpAny_Call_Name_kw (ld_glob I hg hm ?_ hdb)
  refine PySem.W.callWith_K (h₀ := X.base) I.ok.mod.kin hk (thn (ha.run pos pins s σ H _ I h) fun us s1 ⟨vs, H1, I1, r, q⟩ => ⟨I1.kIn, ?_⟩) he hpl
  show wpAny _ _ (call (.ref f) us) _ _ _
  obtain ⟨hget, na, nL, nF, _⟩ := I1.pin (a, oe) (List.mem_append.mpr (.inl List.mem_cons_self))
  have na' : H1 a = none := na
  have hq := q oe hz hfd na'
  have hl : us.length = ps.length := by rw [← r.length]; exact F.len _ _ _ _ hq
  have b := hb s1 us I1.kIn (by rw [List.append_nil]; exact hl)
  rw [List.append_nil] at b
  have e0 := I1.env0
  have nst : a ∉ frs X.stack := fun z => (List.mem_cons.mp (I1.stkSub a z)).elim nL nF
  have e1 : Env0 X.prog X.w X.K X.mg X.base (X.A.mark (some (.ref a))) X.stack s1 (upd H1 a (errO a oe)) := by
    refine ⟨e0.frames, e0.mod, fun c o z => ?_, e0.bsz, e0.funs, fun c z => ?_, track_ok e0.hok hget na', e0.bare⟩
    · have hc : c ≠ a := fun y => by rw [y, hbase] at z; cases z
      exact ⟨(e0.bs c o z).1, by rw [upd_ne hc]; exact (e0.bs c o z).2⟩
    · have hc : c ≠ a := fun y => nst (y ▸ z)
      rw [upd_ne hc]
      exact e0.frf c z
  refine wpAny_call (codeAny_mono (F.run _ X.stack s1 _ ⟨us, []⟩ us vs _ (.of hr _) e1 b r hq) fun r' s' hq' => ?_)
  cases r' with
  | error e => exact False.elim hq'
  | ok fl =>
    cases fl with
    | ret u =>
      obtain ⟨v, H2, os, bare, un, hok, rv, q2⟩ := hq'
      exact I1.after ⟨v, del H2 a, os, bare, untrack_un na' hget hok un, untrack_ok hok (un.frzs a _ _ upd_same), rv, q2⟩
    | next => exact False.elim hq'
    | brk => exact False.elim hq'
    | cont => exact False.elim hq'
end
end L2

namespace L2
open PySem PySem.Spec PyProof.Rows PySem.RingX
/-! ### the facts of such a class, from what the top has written -/
def exB (K : PySem.W.Frag) (C fI : Addr) (fs : List Str) : Bool :=
  decide (PySem.W.findIn K (.ref C) "__setattr__" = some (some (.builtin "object.__setattr__"))) && (xfB K C && (fs.all (fun f => decide (PySem.W.findIn K (.ref C) f = some none)) &&
    (decide (PySem.W.findIn K (.ref C) "__init__" = some (some (.ref fI))) && (decide (PySem.W.typeIn K (.ref fI) = some (.type "function")) && (PySem.W.keepIn K (.ref C) && (decide (PySem.W.typeIn K (.ref C) = some (.type "type")) &&
      (decide (PySem.W.ks_superIn K C C "__init__" = some (some (.builtin "ValueError.__init__"))) && (decide (PySem.W.subIn K (.ref C) (.type "ValueError") = some true) && (decide (PySem.W.mroIn K C (.ref C) = some true) &&
        (decide (PySem.W.findIn K (.ref C) "__class__" = some (some (.builtin "object.__class__"))) && decide (PySem.W.mroIn K C (.type "object") = some true)))))))))))
structure ExF (K : PySem.W.Frag) (C fI : Addr) (fs : List Str) : Prop where
  sa : PySem.W.findIn K (.ref C) "__setattr__" = some (some (.builtin "object.__setattr__"))
  xf : XfC K C
  noN : ∀ f ∈ fs, PySem.W.findIn K (.ref C) f = some none
  iC : PySem.W.findIn K (.ref C) "__init__" = some (some (.ref fI))
  tC : PySem.W.typeIn K (.ref fI) = some (.type "function")
  kC : PySem.W.keepIn K (.ref C) = true
  tyC : PySem.W.typeIn K (.ref C) = some (.type "type")
  sI : PySem.W.ks_superIn K C C "__init__" = some (some (.builtin "ValueError.__init__"))
  sV : PySem.W.subIn K (.ref C) (.type "ValueError") = some true
  mC : PySem.W.mroIn K C (.ref C) = some true
  cl : PySem.W.findIn K (.ref C) "__class__" = some (some (.builtin "object.__class__"))
  mo : PySem.W.mroIn K C (.type "object") = some true
theorem exB_ok {K : PySem.W.Frag} {C fI : Addr} {fs : List Str} (h : exB K C fI fs = true) : ExF K C fI fs := by
  unfold exB at h
  simp only [Bool.and_eq_true, decide_eq_true_eq, List.all_eq_true] at h
  obtain ⟨h1, h2, h3, h4, h5, h6, h7, h8, h9, h10, h11, h12⟩ := h
  exact ⟨h1, xfB_ok h2, h3, h4, h5, h6, h7, h8, h9, h10, h11, h12⟩
def psOf (st : Stmt) : Pos := match (defArgs st).args with | a :: _ => a.pos | [] => ⟨0, 0, 0, 0⟩
def fpOf (st : Stmt) : List (Str × Pos) := match (defArgs st).args with | _ :: r => r.map fun a => (a.arg, a.pos) | [] => []
def txtOf (st : Stmt) : Str := match defBody st with | .Expr (.Call _ [.Constant (.str t) _ _] _ _) _ :: _ => t | _ => ""
def supOf (st : Stmt) : SupP := match defBody st with
  | .Expr (.Call (.Attribute (.Call (.Name _ q0) _ _ q1) _ q2) [.Constant _ _ q3] _ q4) q5 :: _ => ⟨q0, q1, q2, q3, q4, q5⟩
  | _ => ⟨⟨0, 0, 0, 0⟩, ⟨0, 0, 0, 0⟩, ⟨0, 0, 0, 0⟩, ⟨0, 0, 0, 0⟩, ⟨0, 0, 0, 0⟩, ⟨0, 0, 0, 0⟩⟩
def setOf : Stmt → Str × SetP
  | .Assign [.Attribute (.Name _ p1) f p2] (.Name _ p3) p4 => (f, ⟨p1, p2, p3, p4⟩)
  | _ => ("", ⟨⟨0, 0, 0, 0⟩, ⟨0, 0, 0, 0⟩, ⟨0, 0, 0, 0⟩, ⟨0, 0, 0, 0⟩⟩)
def setsOf (st : Stmt) : List (Str × SetP) := match defBody st with | _ :: r => r.map setOf | [] => []
/-- the text of such an __init__ -/
structure ExText (st : Stmt) (fs : List Str) : Prop where
  hA : defArgs st = exArgs (psOf st) (fpOf st)
  hB : defBody st = exSup (txtOf st) (supOf st) :: (setsOf st).map exSet
  hS : defScope st = exScope fs
  hN : (setsOf st).map (·.1) = fs
  hL : ((supOf st).q2.endLine == (supOf st).q4.line) = true
  nm : namesOk fs = true
  len : fs.length ≤ 500
  bind : ∀ (qual : Str) (kV doc pm : Value) (an : Option Addr) (cda : Addr) (ct : Value) (cc : Addr) (s : Shared) (x : Value) (us : List Value), us.length = fs.length →
    BindsTo s (PySem.W.ksFn "__init__" qual (defArgs st) (defBody st) (defScope st) .none kV doc pm an (.ref cda) ct cc) ⟨x :: us, []⟩ (("self", x) :: fs.zip us)
theorem ex_mk {prog : Program} {K : PySem.W.Frag} {h : Heap} {mg : Str → Option Value} {C fI cc cda : Addr} {nm cn qual q file : Str} {fs : List Str} {st : Stmt} {N : Addr} {bs bm : List Value} {sn : List Str} {sub : List Value} {ab : Bool} {col : Option Bool} {dd : Option Addr} {k0 k1 k2 k3 k5 : Option Value}
    {oc kV doc pm ct cl ccl : Value} {od an cld cdd : Option Addr} {osl csl ccs : Array (Option Value)} {vs : Array Value} {tf : Tok}
    (X : K.In h) (G : h.Ns mainGlobals mg) (T : ExText st fs)
    (aC : PySem.W.nsIn K mainGlobals nm = some (some (.ref C)))
    (xC : K.lookup C = some (excClassObj cn q C N bs bm true sn sub ab col dd k0 k1 k2 k3 k5 "ValueError.__new__")) (hbm : PySem.HandSPX.refsVE bm = true)
    (l : K.lookup fI = some ⟨oc, od, .func (PySem.W.ksFn "__init__" qual (defArgs st) (defBody st) (defScope st) .none kV doc pm an (.ref cda) ct cc), osl⟩) (cd : PySem.W.codeIn K (.ref cda) qual = true)
    (cel : K.lookup cc = some ⟨cl, cld, .cell (some (.ref C)), csl⟩) (ca : K.lookup cda = some ⟨ccl, cdd, .fields vs, ccs⟩) (hv : vs[2]? = some (.str file tf)) (hf : ((prog.main.file : Str) == file) = true)
    (chk : exB K C fI fs = true) (op : PySem.W.nsIn K PySem.cStatics "thirdparty.any" = some none) (su : PySem.W.nsIn K mainGlobals "super" = some none) (htop : (prog.main.scope.names.lookup ("super" : Str)).isSome = false) : ExTxt prog K mg C fI nm fs := by
  have F := exB_ok chk
  have b := T.bind
  rw [T.hA, T.hB, T.hS] at l b
  exact ⟨PySem.W.mg_of X G aC, ⟨cn, q, N, bs, bm, sn, sub, ab, col, dd, k0, k1, k2, k3, k5, xC, hbm⟩, F.sa, F.xf.ga, F.xf.gg, F.noN, F.iC, F.tC, F.kC, F.xf.exC, F.tyC, F.xf.hdC, op, F.sI, F.sV, F.mC, PySem.W.mg_none_of X G su, htop, T.nm, T.len,
    ⟨oc, od, kV, doc, pm, an, cda, ct, cc, osl, psOf st, fpOf st, txtOf st, supOf st, setsOf st, qual, ccl, cl, cdd, cld, ccs, csl, vs, file, tf, l, cd, T.hN, T.hL, ca, hv, hf, cel, b _ _ _ _ _ _ _ _⟩⟩
theorem exc_mk {K : PySem.W.Frag} {C fI : Addr} {fs : List Str} (chk : exB K C fI fs = true) (hn : PySem.W.specialIn K (.builtin "object.__class__") "__get__" = some (some (.builtin "getset_descriptor.__get__"))) (ht : PySem.W.takesIn K (.builtin "object.__class__") = some true) : ExcC K C := by
  have F := exB_ok chk
  exact ⟨F.xf.ga, F.xf.gg, F.xf.exC, F.xf.hdC, F.cl, hn, ht, F.mo⟩
/-- which of the classes cs lie below which -/
def relB (K : PySem.W.Frag) (cs : List Addr) : Bool := cs.zipIdx.all fun p => cs.zipIdx.all fun q => decide (PySem.W.subIn K (.ref p.1) (.ref q.1) = some (decide (p.2 = q.2)))
theorem relB_ok {K : PySem.W.Frag} {cs : List Addr} (h : relB K cs = true) {i j : Nat} (hi : i < cs.length) (hj : j < cs.length) : PySem.W.subIn K (.ref (cs.getD i 0)) (.ref (cs.getD j 0)) = some (decide (i = j)) := by
  unfold relB at h
  rw [List.all_eq_true] at h
  have h1 := h (cs[i], i) (List.mk_mem_zipIdx_iff_getElem?.mpr (List.getElem?_eq_getElem hi))
  rw [List.all_eq_true] at h1
  have h2 := of_decide_eq_true (h1 (cs[j], j) (List.mk_mem_zipIdx_iff_getElem?.mpr (List.getElem?_eq_getElem hj)))
  have e1 : cs.getD i 0 = cs[i] := by rw [List.getD_eq_getElem?_getD, List.getElem?_eq_getElem hi]; rfl
  have e2 : cs.getD j 0 = cs[j] := by rw [List.getD_eq_getElem?_getD, List.getElem?_eq_getElem hj]; rfl
  rw [e1, e2]
  exact h2
theorem kit_ref {K : PySem.W.Frag} {C : Addr} {cls : Value} {b : Bool} (hd : PySem.W.hasDictIn K C = true) (ht : PySem.W.typeIn K (.ref C) = some (.type "type")) (hs : PySem.W.subIn K cls (.ref C) = some b) (hself : cls = .ref C → b = true) : PySem.W.kitOne K cls (.ref C) = some b := by
  unfold PySem.W.kitOne
  by_cases e : cls = .ref C
  · rw [if_pos (by rw [e]; exact beq_self_eq_true _), hself e]
  · rw [if_neg (by simpa using e)]
    unfold PySem.W.kitCls
    obtain ⟨cd, hc, _⟩ := PySem.W.any_some hd
    have z : ((PySem.W.clsIn K C).isSome && PySem.W.typeIn K (.ref C) == some (.type "type")) = true := by rw [hc, ht]; rfl
    show (if ((PySem.W.clsIn K C).isSome && PySem.W.typeIn K (.ref C) == some (.type "type")) = true then PySem.W.subIn K cls (.ref C) else none) = some b
    rw [if_pos z, hs]
theorem kit_type {K : PySem.W.Frag} {T : String} {cls : Value} {b : Bool} (hm : PySem.W.kitMeta T = true) (hs : PySem.W.subIn K cls (.type T) = some b) (hn : cls ≠ .type T) : PySem.W.kitOne K cls (.type T) = some b := by
  unfold PySem.W.kitOne
  rw [if_neg (by simpa using hn)]
  show (if PySem.W.kitMeta T = true then PySem.W.subIn K cls (.type T) else none) = some b
  rw [if_pos hm, hs]
end L2

/-! ## Rings: rows as data, their lengths, what is lawful -/
namespace Rg
open PySem
abbrev D := PyData
def isT : D → Bool | .tuple _ => true | _ => false
def emp : D → Bool | .none => true | _ => false
def wholeD : D → Bool | .int _ => true | _ => false
def prD : D → Bool | .tuple [.int _, .int h] => decide (0 ≤ h) | _ => false
def itemD : D → Bool | .tuple [.int _, .int h, .int _] => decide (0 ≤ h) | _ => false
def stoneD : D → Bool | .str x => x == "stone" | _ => false
def rowD (d : D) : Bool := emp d || stoneD d || itemD d
def keyD : D → Int | .tuple (.int k :: _) => k | _ => 0
def hashD : D → Int | .tuple [_, .int h, _] => h | _ => 0
def keysDiffer (ds : List D) : Bool := decide ((ds.map keyD).Nodup)
def ringL (ds : List D) : Bool := ds.all rowD && (ds.any emp && keysDiffer (ds.filter isT))
def ringD : D → Bool | .tuple ds => ringL ds | _ => false
theorem emp_none {d : D} : emp d = true ↔ d = .none := by
  cases d <;> simp [emp]
theorem isT_emp {d : D} (h : isT d = true) : emp d = false := by
  cases d <;> simp [isT, emp] at *

/-- the row number i, any whole number: round and round -/
def row (ds : List D) (i : Int) : D := ds.getD (i % (ds.length : Int)).toNat .none
def E (ds : List D) (i : Int) : Prop := emp (row ds i) = true
instance (ds : List D) (i : Int) : Decidable (E ds i) := inferInstanceAs (Decidable (_ = true))
theorem row_add (ds : List D) (i : Int) (k : Int) : row ds (i + ds.length * k) = row ds i := by
  unfold row
  rw [Int.add_mul_emod_self_left]
theorem row_mod (ds : List D) (i : Int) : row ds (i % ds.length) = row ds i := by
  unfold row
  rw [Int.emod_emod_of_dvd _ (Int.dvd_refl _)]
theorem row_congr {ds : List D} {i j : Int} (h : i % ds.length = j % ds.length) : row ds i = row ds j := by
  unfold row
  rw [h]
theorem row_nat {ds : List D} {i : Nat} (h : i < ds.length) : row ds (i : Int) = ds[i] := by
  unfold row
  rw [Int.emod_eq_of_lt (by omega) (by omega), Int.toNat_natCast, List.getD_eq_getElem?_getD, List.getElem?_eq_getElem h]
  rfl
theorem row_get? {ds : List D} {i : Nat} (h : i < ds.length) : ds[i]? = some (row ds (i : Int)) := by
  rw [row_nat h, List.getElem?_eq_getElem h]

/-- from p on, n rows hold something, and the next one is empty -/
def IsLen (ds : List D) (p : Int) (n : Nat) : Prop := E ds (p + n) ∧ ∀ j : Nat, j < n → ¬ E ds (p + j)
theorem IsLen.uniq {ds : List D} {p : Int} {a b : Nat} (x : IsLen ds p a) (y : IsLen ds p b) : a = b := by
  rcases Nat.lt_trichotomy a b with h | h | h
  · exact absurd x.1 (y.2 a h)
  · exact h
  · exact absurd y.1 (x.2 b h)
theorem least {P : Nat → Prop} (h : ∃ n, P n) : ∃ n, P n ∧ ∀ j, j < n → ¬ P j := by
  obtain ⟨n, hn⟩ := h
  induction n using Nat.strongRecOn with
  | _ n ih =>
    by_cases c : ∃ j, j < n ∧ P j
    · obtain ⟨j, h1, h2⟩ := c
      exact ih j h1 h2
    · exact ⟨n, hn, fun j hj hp => c ⟨j, hj, hp⟩⟩
/-- some row is empty -/
def Open_ (ds : List D) : Prop := ∃ i : Int, E ds i
theorem open_pos {ds : List D} (i : Int) (h : ¬ E ds i) : 0 < ds.length := by
  cases ds with
  | nil => exact absurd (show E [] i from rfl) h
  | cons _ _ => simp
theorem open_fwd {ds : List D} (hm : 0 < ds.length) (h : Open_ ds) (p : Int) : ∃ n : Nat, n < ds.length ∧ E ds (p + n) := by
  obtain ⟨i, hi⟩ := h
  refine ⟨((i - p) % ds.length).toNat, ?_, ?_⟩
  · have h1 := Int.emod_lt_of_pos (i - p) (show (0 : Int) < ds.length by omega)
    have h2 := Int.emod_nonneg (i - p) (show (ds.length : Int) ≠ 0 by omega)
    omega
  · have h2 := Int.emod_nonneg (i - p) (show (ds.length : Int) ≠ 0 by omega)
    unfold E
    rw [Int.toNat_of_nonneg h2, show row ds (p + (i - p) % ds.length) = row ds i from row_congr (by
      rw [Int.add_comm, Int.emod_add_emod]
      congr 1
      omega)]
    exact hi
theorem len_ex {ds : List D} (hm : 0 < ds.length) (h : Open_ ds) (p : Int) : ∃ n, n < ds.length ∧ IsLen ds p n := by
  obtain ⟨n0, h0, e0⟩ := open_fwd hm h p
  obtain ⟨n, hn, hl⟩ := least (P := fun n => E ds (p + n)) ⟨n0, e0⟩
  refine ⟨n, ?_, hn, hl⟩
  rcases Nat.lt_or_ge n ds.length with z | z
  · exact z
  · exact absurd e0 (hl n0 (by omega))
theorem back_ex {ds : List D} (hm : 0 < ds.length) (h : Open_ ds) (p : Int) : ∃ n : Nat, E ds (p - 1 - n) ∧ ∀ j : Nat, j < n → ¬ E ds (p - 1 - j) := by
  obtain ⟨n0, h0, e0⟩ := open_fwd hm h p
  refine least (P := fun n : Nat => E ds (p - 1 - n)) ⟨ds.length - 1 - n0, ?_⟩
  unfold E at *
  have e : row ds (p - 1 - ((ds.length - 1 - n0 : Nat) : Int)) = row ds (p + n0) := row_congr (by
    have q : p - 1 - ((ds.length - 1 - n0 : Nat) : Int) = (p + n0) + ds.length * (-1) := by omega
    rw [q, Int.add_mul_emod_self_left])
  show emp (row ds (p - 1 - ((ds.length - 1 - n0 : Nat) : Int))) = true
  rw [e]
  exact e0
open Classical in
/-- how many rows hold something from p on -/
noncomputable def len (ds : List D) (p : Int) : Nat := if h : ∃ n, IsLen ds p n then choose h else 0
theorem len_spec {ds : List D} {p : Int} (h : ∃ n, IsLen ds p n) : IsLen ds p (len ds p) := by
  unfold len
  rw [dif_pos h]
  exact Classical.choose_spec h
theorem len_of {ds : List D} {p : Int} {n : Nat} (h : IsLen ds p n) : len ds p = n := (len_spec ⟨n, h⟩).uniq h

/-- the runs among the rows below n -/
noncomputable def runsTo (ds : List D) (n : Nat) : List (Nat × Nat) := (List.range n).filterMap fun (f : Nat) => if ¬ E ds (f : Int) ∧ E ds ((f : Int) - 1) then some (f, len ds f) else none
noncomputable def runs (ds : List D) : List (Nat × Nat) := runsTo ds ds.length
theorem runsTo_succ (ds : List D) (n : Nat) : runsTo ds (n + 1) = runsTo ds n ++ (if ¬ E ds (n : Int) ∧ E ds ((n : Int) - 1) then [(n, len ds n)] else []) := by
  unfold runsTo
  rw [List.range_succ, List.filterMap_append]
  congr 1
  by_cases c : ¬ E ds n ∧ E ds ((n : Int) - 1)
  · rw [List.filterMap_cons, if_pos c, if_pos c]; rfl
  · rw [List.filterMap_cons, if_neg c, if_neg c]; rfl
theorem mem_runs {ds : List D} {q : Nat × Nat} : q ∈ runs ds ↔ q.1 < ds.length ∧ ¬ E ds q.1 ∧ E ds ((q.1 : Int) - 1) ∧ q.2 = len ds q.1 := by
  unfold runs runsTo
  rw [List.mem_filterMap]
  constructor
  · rintro ⟨f, hf, e⟩
    split at e
    · rename_i c
      cases e
      exact ⟨List.mem_range.mp hf, c.1, c.2, rfl⟩
    · cases e
  · rintro ⟨h1, h2, h3, h4⟩
    refine ⟨q.1, List.mem_range.mpr h1, ?_⟩
    rw [if_pos ⟨h2, h3⟩, ← h4]

/-- how far the item in the row r is from its home -/
def gap (ds : List D) (r : Int) : Int := (r - hashD (row ds r)) % ds.length
def Reached (ds : List D) : Prop := ∀ r : Int, isT (row ds r) = true → ∀ j : Nat, (j : Int) ≤ gap ds r → ¬ E ds (r - j)
def InOrder (ds : List D) : Prop := ∀ r : Int, isT (row ds r) = true → isT (row ds (r + 1)) = true → gap ds (r + 1) ≤ gap ds r + 1
def NoStone (ds : List D) : Prop := ∀ r : Int, stoneD (row ds r) = false
theorem gap_congr {ds : List D} {i j : Int} (h : i % ds.length = j % ds.length) : gap ds i = gap ds j := by
  unfold gap
  rw [row_congr h, Int.sub_emod, h, ← Int.sub_emod]
theorem gap_mod (ds : List D) (i : Int) : gap ds (i % ds.length) = gap ds i := gap_congr (Int.emod_emod_of_dvd _ (Int.dvd_refl _))
theorem gap_nn {ds : List D} (hm : 0 < ds.length) (r : Int) : 0 ≤ gap ds r := Int.emod_nonneg _ (by omega)
theorem gap_lt {ds : List D} (hm : 0 < ds.length) (r : Int) : gap ds r < ds.length := Int.emod_lt_of_pos _ (by omega)
theorem isT_notE {ds : List D} {r : Int} (h : isT (row ds r) = true) : ¬ E ds r := by
  unfold E
  rw [isT_emp h]
  exact Bool.false_ne_true
theorem E_congr {ds : List D} {i j : Int} (h : i % ds.length = j % ds.length) : E ds i ↔ E ds j := by
  unfold E
  rw [row_congr h]
theorem reached_runs {ds : List D} (hm : 0 < ds.length) (ho : Open_ ds) : Reached ds ↔ ∀ q ∈ runs ds, ∀ b : Nat, b < q.2 → isT (row ds (q.1 + b)) = true → gap ds (q.1 + b) ≤ b := by
  constructor
  · intro R q hq b hb ht
    obtain ⟨h1, h2, h3, h4⟩ := mem_runs.mp hq
    refine Int.not_lt.mp fun hlt => ?_
    refine R _ ht (b + 1) (by omega) ?_
    have e : ((q.1 : Int) + b) - ((b + 1 : Nat) : Int) = (q.1 : Int) - 1 := by omega
    rw [e]
    exact h3
  · intro H r ht j hj
    obtain ⟨n, hn, hl⟩ := back_ex hm ho r
    have nE : ∀ i : Nat, i ≤ n → ¬ E ds (r - i) := fun i hi => by
      cases i with
      | zero => rw [show r - ((0 : Nat) : Int) = r by omega]; exact isT_notE ht
      | succ i =>
        have := hl i (by omega)
        rw [show r - ((i + 1 : Nat) : Int) = r - 1 - i by omega]
        exact this
    -- the first row of its run
    have hf0 := Int.emod_nonneg (r - n) (show (ds.length : Int) ≠ 0 by omega)
    have hf1 := Int.emod_lt_of_pos (r - n) (show (0 : Int) < ds.length by omega)
    have ef : (((r - n) % ds.length).toNat : Int) = (r - n) % ds.length := Int.toNat_of_nonneg hf0
    have cong : ∀ k : Int, ((((r - n) % ds.length).toNat : Int) + k) % ds.length = (r - n + k) % ds.length := fun k => by
      rw [ef, Int.emod_add_emod]
    obtain ⟨L, hL, isL⟩ := len_ex hm ho ((((r - n) % ds.length).toNat : Nat) : Int)
    have hLn : n < L := by
      refine Nat.not_le.mp fun z => ?_
      have := isL.1
      rw [E_congr (cong L)] at this
      refine nE (n - L) (by omega) ?_
      rw [show r - ((n - L : Nat) : Int) = r - n + L by omega]
      exact this
    have mem : (((r - n) % ds.length).toNat, L) ∈ runs ds := mem_runs.mpr ⟨by omega, by
        have := cong 0
        rw [Int.add_zero, Int.add_zero] at this
        rw [E_congr this]
        exact nE n (Nat.le_refl _), by
        have := cong (-1)
        rw [show ((((r - n) % ds.length).toNat : Nat) : Int) - 1 = (((r - n) % ds.length).toNat : Int) + -1 by omega, E_congr this, show r - n + -1 = r - 1 - n by omega]
        exact hn, (len_of isL).symm⟩
    have c2 : ((((r - n) % ds.length).toNat : Int) + (n : Int)) % ds.length = r % ds.length := by
      rw [cong n]
      congr 1
      omega
    have g := H _ mem n hLn (by rw [row_congr c2]; exact ht)
    rw [gap_congr c2] at g
    exact nE j (by omega)
end Rg

namespace L2
open PySem PySem.Spec PyProof.Rows
/-! ### len(set(xs)) of any ints -/
def FM (ns : List Int) : List Int := PyProof.Rows.firstMet (fun i => ns.getD i 0) ns.length
def tLenSetA (K : PySem.W.Frag) (ta : TE) : TE := fun σ H Q => ta σ H fun x H1 => ∃ (l : Addr) (ns : List Int), x = .ref l ∧ SqL K H1 l (ns.map V.int) ∧ ns.length ≤ 4000 ∧ Q (.int ((FM ns).length : Nat)) H1
theorem pe_lenSetA {X : Cx} {a : Expr} {ta : TE} {p p2 q pos : Pos} (hg : Gl X "len") (hm : X.mg "len" = none) (hg2 : Gl X "set") (hm2 : X.mg "set" = none) (ha : PE X a ta) (hc : X.calm = true := by rfl)
    (na : starEach [a] X.env = (false, eval a X.env) :: starEach [] X.env := by rfl) : PE X (.Call (.Name "len" p) [.Call (.Name "set" p2) [a] [] q] [] pos) (tLenSetA X.K ta) := by
  refine ⟨fun pins s σ H Q I h => Call_ (ld_blt I hg hm PySem.boot_len ?_)⟩
  refine callWith_builtin1 (args_cons ?_ rfl) rfl rfl
  refine Call_ (ld_blt I hg2 hm2 PyProof.Rows.boot_set ?_)
  refine callWith_type1 (args_cons (thn (ha.run pins s σ H _ I h) fun v s1 ⟨x, H1, I1, r1, q1⟩ => args_nil ?_) na) na rfl
  obtain ⟨l, ns, rfl, hq, hl, q1⟩ := q1
  cases r1
  obtain ⟨its, r, pl, hz⟩ := I1.list hq
  have hlen : its.toArray.size = ns.length := by rw [List.size_toArray, ← r.length, List.length_map]
  refine call_set_list (I1.ok.hd hc) pl.isList (by simpa using RZ.intsAre_vals r) (by rw [hlen]; unfold scanBound; omega) fun h' tk hS hk => args_nil ?_
  rw [hlen] at hS
  have fl : (FM ns).length ≤ ns.length := by
    unfold FM
    have : ∀ i, (PyProof.Rows.firstMet (fun i => ns.getD i 0) i).length ≤ i := fun i => by
      induction i with
      | zero => exact Nat.le_refl _
      | succ i ih =>
        rw [PyProof.Rows.firstMet_succ]
        unfold PyProof.Rows.step_dedup
        split
        · omega
        · simp only [List.length_append, List.length_cons, List.length_nil]; omega
    exact this _
  obtain ⟨o, es, ep, t, ho, hex, hd, _, _, _, hf, hn⟩ := hS
  have I2 : Inv X pins σ H1 { s1 with heap := h', toks := tk } := I1.kept fun b o e => hk b o (Heap.lt_size e) e
  have hn' : es.size = (FM ns).length := hn
  exact call_len_set ho hex hd hf (by rw [hn']; omega) ⟨.int (FM ns).length, H1, I2.tok _, ⟨_, by rw [hn']⟩, q1⟩
theorem fm_nodup (ns : List Int) : ((FM ns).length = ns.length) ↔ ns.Nodup := by
  have key : ∀ i, i ≤ ns.length → ((PyProof.Rows.firstMet (fun i => ns.getD i 0) i).length ≤ i) ∧ ((PyProof.Rows.firstMet (fun i => ns.getD i 0) i).length = i → PyProof.Rows.firstMet (fun i => ns.getD i 0) i = ns.take i ∧ (ns.take i).Nodup) := by
    intro i
    induction i with
    | zero => intro _; exact ⟨Nat.le_refl _, fun _ => ⟨rfl, by simp⟩⟩
    | succ i ih =>
      intro hi
      obtain ⟨h1, h2⟩ := ih (by omega)
      have hlt : i < ns.length := hi
      have e1 : ns.getD i 0 = ns[i] := by rw [List.getD_eq_getElem?_getD, List.getElem?_eq_getElem hlt]; rfl
      rw [PyProof.Rows.firstMet_succ]
      unfold PyProof.Rows.step_dedup
      by_cases c : (PyProof.Rows.firstMet (fun i => ns.getD i 0) i).any (· == ns.getD i 0) = true
      · rw [if_pos c]
        exact ⟨by omega, fun z => by omega⟩
      · rw [if_neg c]
        refine ⟨by simp only [List.length_append, List.length_cons, List.length_nil]; omega, fun z => ?_⟩
        simp only [List.length_append, List.length_cons, List.length_nil] at z
        obtain ⟨e2, nd⟩ := h2 (by omega)
        have e3 : ns.take (i + 1) = ns.take i ++ [ns[i]] := by rw [List.take_add_one, List.getElem?_eq_getElem hlt]; rfl
        rw [e2, e1, e3]
        refine ⟨rfl, List.nodup_append.mpr ⟨nd, by simp, fun a ha b hb => ?_⟩⟩
        rw [List.mem_singleton.mp hb]
        intro e
        refine c ?_
        rw [e2, e1]
        exact List.any_eq_true.mpr ⟨a, ha, by simp [e]⟩
  obtain ⟨_, h⟩ := key ns.length (Nat.le_refl _)
  constructor
  · intro e
    have := (h e).2
    rw [List.take_length] at this
    exact this
  · intro nd
    unfold FM
    rw [RZ.firstMet_nodup nd ns.length (Nat.le_refl _), List.take_length]

/-! ### isinstance of data -/
def tyD : PyData → String
  | .none => "NoneType" | .bool _ => "bool" | .int _ => "int" | .str _ => "str" | .list _ => "list" | .tuple _ => "tuple" | .dict _ => "dict"
theorem dp_ty {K : PySem.W.Frag} {H : Hp} {v : V} {d : PyData} (h : Dp K H v d) : TyX K H v (.type (tyD d)) := by
  cases h with
  | non => exact .base .non
  | bl b => exact .base (.bl b)
  | int i => exact .base (.int i)
  | str x => exact .base (.str x)
  | lst q _ =>
    rcases q with (q | ⟨o, q⟩) | ⟨o, its, n, q, c, _⟩
    · exact .base (.lst q)
    · exact .base (.frz q)
    · exact .kList q c
  | tup q _ =>
    rcases q with (q | ⟨o, q⟩) | ⟨o, its, n, q, c, _⟩
    · exact .base (.tup q)
    · exact .fTuple q
    · exact .kTuple q c
theorem Dp.keep {K : PySem.W.Frag} {H H' : Hp} (s : Same H H') : ∀ {d : PyData} {v : V}, Dp K H v d → Dp K H' v d := by
  have sqT : ∀ {a : Addr} {xs : List V}, SqT K H a xs → SqT K H' a xs := fun {a xs} q => by
    rcases q with (q | ⟨o, q⟩) | q
    · exact .inl (.inl (s _ _ q))
    · exact .inl (.inr ⟨o, s _ _ q⟩)
    · exact .inr q
  intro d v h
  induction h using Dp.rec (motive_2 := fun vs ds _ => DpAll K H' vs ds) with
  | non => exact .non
  | bl b => exact .bl b
  | int i => exact .int i
  | str x => exact .str x
  | lst q _ ih => exact .lst (s.seq q) ih
  | tup q _ ih => exact .tup (sqT q) ih
  | nil => exact .nil
  | cons _ _ ih1 ih2 => exact .cons ih1 ih2
end L2

/-! ## for i, x in enumerate(xs, start=k), k written -/
namespace L2
open PySem PySem.Spec PyProof.Rows
/-- the list at a as it stands at each turn, each item in a new pair, counted from k on -/
def IteS (K : PySem.W.Frag) (a : Addr) (k : Int) : It :=
  ⟨fun i H => ∃ (xs : List V) (x : V), SqL K H a xs ∧ xs[i]? = some x, fun i H v H' => ∃ T x, v = .ref T ∧ H T = none ∧ H' = upd H T (.tup [.int (k + (i : Nat)), x]) ∧ ∀ xs, SqL K H a xs → xs[i]? = some x, fun i H => ∃ xs : List V, SqL K H a xs ∧ xs.length ≤ i⟩
theorem turn_enumS {P : Program} {w : World} {K : PySem.W.Frag} {elts : List Expr} {kk : Nat} {tpos : Pos} (a e it : Addr) (k : Int) :
    Turn P w K (.Tuple elts kk tpos) (IteS K a k) [e, it] e (fun i h => (∃ old, IsEnum h e it (k + ((i : Nat) : Int)) old) ∧ h.IsListIter it a i ∧ e ≠ it) where
  mem := by simp
  obj := fun i h st b hb => by
    obtain ⟨⟨old, he⟩, ⟨o, ho, hc, hd⟩, _⟩ := st
    have e' : b = e ∨ b = it := by simpa using hb
    rcases e' with z | z
    · rw [z]; exact ⟨_, he, fun v q => nomatch q⟩
    · rw [z]; exact ⟨o, ho, fun v q => by rw [hd] at q; cases q⟩
  keep := fun i h h' st k => let ⟨⟨old, he⟩, hi, hne⟩ := st; ⟨⟨old, k e (by simp) _ he⟩, hi.at fun o q => k it (by simp) o q, hne⟩
  item := by
    intro X hP hw hK hc i pins s σ H E I hf st hg
    subst hP hw hK
    obtain ⟨⟨old, he⟩, hit, hne⟩ := st
    obtain ⟨xs, x, hq, hx⟩ := hg
    obtain ⟨its, rv, p, hz⟩ := I.list hq
    obtain ⟨u, hu, ru⟩ := rv.get hx
    have hel : e < s.heap.objs.size := Heap.lt_size he
    have hil : it < s.heap.objs.size := by obtain ⟨_, q, _⟩ := hit; exact Heap.lt_size q
    have hla : a < s.heap.objs.size := by obtain ⟨_, q, _⟩ := p.isList; exact Heap.lt_size q
    have hai : a ≠ it := fun z => by
      obtain ⟨o1, q1, c1, _⟩ := p.isList
      obtain ⟨o2, q2, c2, _⟩ := hit
      rw [z, q2] at q1
      cases q1
      rw [c2] at c1
      exact absurd (Value.type.inj c1) (by decide)
    have hae : e ≠ a := fun z => by
      obtain ⟨o1, q1, c1, _⟩ := p.isList
      have he' : s.heap.get? e = some _ := he
      rw [← z, he'] at q1
      cases q1
      exact absurd (Value.type.inj c1) (by decide)
    refine wpAny_pyNext_enum_itemC (Draws.list (A := X.A.in1) (I.ok.hd hc) it a hai its.toArray) he ⟨hit, p.isList⟩ (by have := (List.getElem?_eq_some_iff.mp hu).1; simpa using this) hne (by simp [hne, hae]) fun y h' tk hy ho hst hT hsz hk => ?_
    obtain rfl : y = u := by
      have hy' : its.toArray[i]? = some y := hy
      rw [show its.toArray[i]? = some u by simpa using hu] at hy'
      exact (Option.some.inj hy').symm
    obtain ⟨hit', _⟩ := hst
    refine ⟨_, rfl, wpAny_letOwnedTupleGo_enum (s := { s with heap := h', toks := tk + 1 }) ho fun h'' he' sb => ?_⟩
    have hT2 : h''.get? s.heap.objs.size = some { cls := .type "tuple", data := .seq #[.int (k + (i : Nat)) tk, y] } := (sb.2 _ (Nat.ne_of_gt hel)).trans hT
    have new : ObjOk X.prog X.w (upd H s.heap.objs.size (.tup [.int (k + (i : Nat)), x])) h'' s.heap.objs.size (.tup [.int (k + (i : Nat)), x]) :=
      ⟨by show 2 ≤ sizeLine; decide, [.int (k + (i : Nat)) tk, y], .cons ⟨_, rfl⟩ (.cons ru .nil), ⟨_, hT2, rfl, _, rfl⟩⟩
    have I1 : Inv X pins σ (upd H s.heap.objs.size (.tup [.int (k + (i : Nat)), x])) { s with heap := h'', toks := tk + 1 } :=
      I.turnedNew (ch := [e, it]) (fun b ob hb q => (sb.2 b (fun z => hb (by simp [z]))).trans (hk b ob (fun z => hb (by simp [z])) (fun z => hb (by simp [z])) q)) hf (Nat.le_refl _) new
    refine ⟨.ref s.heap.objs.size, _, I1, rfl, ⟨_, x, rfl, I.hok.fresh (Nat.le_refl _), rfl, fun ys hy => by rw [I.list_inj hy hq]; exact hx⟩, ⟨⟨y, ?_⟩, hit'.at fun o q => (sb.2 it (Ne.symm hne)).trans q, hne⟩, fun b hb => ?_⟩
    · have e1 : k + ((i + 1 : Nat) : Int) = k + (i : Int) + 1 := by omega
      rw [e1]; exact he'
    · have hb' : b < s.heap.objs.size := by
        have e' : b = e ∨ b = it := by simpa using hb
        rcases e' with z | z
        · rw [z]; exact hel
        · rw [z]; exact hil
      rw [upd_ne (Nat.ne_of_lt hb')]
      exact (hf b hb).1
  done := by
    intro X hP hw hK hc i pins s σ H E I hf st hg
    subst hP hw hK
    obtain ⟨⟨old, he⟩, hit, hne⟩ := st
    obtain ⟨xs, hq, hx⟩ := hg
    obtain ⟨its, rv, p, hz⟩ := I.list hq
    obtain ⟨f0, f1, f2, f3, f4, f5⟩ := hf it (by simp)
    have hl := rv.length
    have hn : its.toArray[i]? = none := by simp; omega
    have hai : a ≠ it := fun z => by
      obtain ⟨o1, q1, c1, _⟩ := p.isList
      obtain ⟨o2, q2, c2, _⟩ := hit
      rw [z, q2] at q1
      cases q1
      rw [c2] at c1
      exact absurd (Value.type.inj c1) (by decide)
    have hd := I.ok.hd hc
    unfold pyNext
    have hT : s.TypeIs (.ref e) "enumerate" := ⟨_, he, rfl⟩
    refine wpAny_bind (wpAny_attempt (wpAny_callSpecial?_slot (name := Str.ofString "__next__") hT F.slot_enumerate_next
      (wpAny_call_entry F.slot_enumerate_next hT F.entry_enumerate_next ?_ (F.args_enumerate_next_1 _))))
    show wpAny _ _ (field (.ref e) 2 >>= _) _ _ _
    refine wpAny_bind (wpAny_field he rfl (x := .ref it) rfl ?_)
    refine wpAny_bind (wpAny_nextOf_list_end hd hit p.isList hn fun h' x eb hx' => ?_)
    obtain ⟨o, ho, hc'⟩ := hx'
    refine wpAny_bind (wpAny_isInstance (T := "StopIteration") (b := true) ⟨o, ho, hc'⟩ isSubtype_stop ?_)
    exact wpAny_pure ⟨rfl, I.turned (t' := s.toks) (fun b o hb q => eb b o hb q) f0 f1 f3 f4 f5⟩
  self := fun A i s Q E st h => let ⟨⟨_, he⟩, _⟩ := st; wpAny_pyIter_enum he h

section
variable {M : Model} {A : Around} {E : Value → Shared → Prop} {s : Shared} {env : Env}
theorem callWith_type_kwB {pos : Pos} {T : String} {first : List Value} {args : List (Bool × Sem Value)} {keywords : List (Option Str × Sem Value)} {Q : Value → Shared → Prop}
    (hplain : args.any (·.1) = false) (hkw : keywords.any (·.1.isNone) = false)
    (h : wpAny M A (evalArgs (.type T) true args keywords) (fun a s₁ => wpAny M A (call (.type T) (first ++ a.pos) a.kw) Q E s₁) E s) :
    wpAny M A (callWith pos (.type T) first args keywords) Q E s := by
  unfold callWith
  refine wpAny_bind (wpAny_holding (wpAny_mono h (fun a s₁ h₁ => wpAny_bind (wpAny_standAt ?_)) fun _ _ x => x))
  simp only [hplain, hkw, Bool.or_false]
  refine wpAny_bind (wpAny_pure ?_)
  exact wpAny_bind (wpAny_mono h₁ (fun r s₂ hr => wpAny_bind (wpAny_holding (wpAny_point (wpAny_pure hr)))) fun _ _ x => x)
theorem callWith_typeK {pos : Pos} {T : String} {e : Expr} {rest : List Expr} {kws : List Keyword} {Q : Value → Shared → Prop}
    (h : wpAny M A (spliced (backTo pos (starEach (e :: rest) env))) (fun vs s₁ => wpAny M A (evalAll ((backToKw pos (keywordEach kws env)).map (·.2)))
      (fun kvs s₂ => wpAny M A (call (.type T) vs (((backToKw pos (keywordEach kws env)).filterMap (·.1)).zip kvs)) Q E s₂) E s₁) E s)
    (he : backTo pos (starEach (e :: rest) env) = (false, eval e env) :: backTo pos (starEach rest env) := by rfl)
    (hplain : (backTo pos (starEach (e :: rest) env)).any (·.1) = false := by rfl)
    (hall : (backToKw pos (keywordEach kws env)).all (·.1.isSome) = true := by rfl)
    (hkw : (backToKw pos (keywordEach kws env)).any (·.1.isNone) = false := by rfl) :
    wpAny M A (callWith pos (.type T) [] (backTo pos (starEach (e :: rest) env)) (backToKw pos (keywordEach kws env))) Q E s := by
  refine callWith_type_kwB hplain hkw ?_
  rw [he] at h ⊢
  exact evalArgs_kwB hall h
end
def iEnumS (K : PySem.W.Frag) (k : Int) (ta : TA) : TI := fun σ H R => ta σ H fun vs H1 => ∃ a xs, vs = [.ref a] ∧ SqL K H1 a xs ∧ R (IteS K a k) H1
theorem pi_enumS {X : Cx} {e : Expr} {ta : TA} {p pos tpos kp cp : Pos} {elts : List Expr} {kk : Nat} {k : Int} (hk0 : -(2 ^ 63) ≤ k) (hk1 : k < 2 ^ 63) (hg : Gl X "enumerate") (hm : X.mg "enumerate" = none) (ha : PA X [e] ta) (hs : starEach [e] X.env = [(false, eval e X.env)] := by rfl) :
    PI X (.Tuple elts kk tpos) (.Call (.Name "enumerate" p) [e] [⟨some "start", .Constant (.int k) 0 cp, kp⟩] pos) (iEnumS X.K k ta) := by
  refine ⟨fun pins s σ H R I h => ?_⟩
  refine wpAny_Call_Name_kw (ld_blt I hg hm boot_enumerate ?_)
  refine callWith_typeK (e := e) (rest := []) (kws := [⟨some "start", .Constant (.int k) 0 cp, kp⟩]) (thn (ha.run pos pins s σ H _ I h) fun us s1 ⟨vs, H1, I1, r1, q1⟩ => ?_) (by rw [hs]; rfl) (by rw [hs]; rfl) rfl rfl
  obtain ⟨a, xs, ex, hq, q⟩ := q1
  subst ex
  refine kws_cons (wpAny_Constant_int (kws_nil ?_))
  cases r1 with
  | cons r rr =>
    cases rr
    cases r
    obtain ⟨its, rv, p', hz⟩ := I1.list hq
    refine enum_begins_start (begins_list a its.toArray) p'.isList hk0 hk1 fun h' he hit hsz hkk => wpAny_pyIter_enum he ?_
    have I2 : Inv X pins σ H1 { s1 with heap := h', toks := s1.toks + 1 } := I1.kept (t' := s1.toks + 1) hkk
    refine ⟨s1.heap.objs.size + 1, [s1.heap.objs.size + 1, s1.heap.objs.size], _, _, H1, rfl, I2, turn_enumS a (s1.heap.objs.size + 1) s1.heap.objs.size k, ⟨⟨.none, by simpa using he⟩, ⟨_, hit, rfl, rfl⟩, Nat.succ_ne_self _⟩, fun b hb => ?_, q⟩
    have e' : b = s1.heap.objs.size + 1 ∨ b = s1.heap.objs.size := by simpa using hb
    have hle : s1.heap.objs.size ≤ b := by
      rcases e' with z | z
      · rw [z]; exact Nat.le_add_right _ _
      · rw [z]; exact Nat.le_refl _
    exact I1.fpOk hle (I1.hok.fresh hle)
end L2

/-! ## x in D, D a dict of the top with texts as keys; list(zip(xs, ys)) -/
namespace L2
open PySem PySem.Spec PyProof.Rows
/-- what a dict of the top says of a text -/
def KHas (K : PySem.W.Frag) (w : World) (a : Addr) (x : Str) (r : Option V) : Prop :=
  ∃ es n o, K.lookup a = some ⟨.type "dict", none, .dict es n, #[]⟩ ∧ PySem.W.KeysLit w.params es.toList ∧ (a == sysModules) = false ∧ PySem.W.nsIn K a x = some o ∧ RelO r o
def rInKD (K : PySem.W.Frag) (w : World) : R2 := fun x y H Q => ∃ p z r, x = .str z ∧ y = .ref p ∧ KHas K w p z r ∧ Q (.bl r.isSome) H
theorem RelO.isSome {r : Option V} {o : Option Value} (h : RelO r o) : r.isSome = o.isSome := by
  cases r <;> cases o <;> first | rfl | exact h.elim
theorem KHas.dct {K : PySem.W.Frag} {w : World} {a : Addr} {x : Str} {v : V} (h : KHas K w a x (some v)) : KDct K w a x v := by
  obtain ⟨es, n, o, h1, h2, h3, h4, h5⟩ := h
  cases o with
  | none => exact h5.elim
  | some u => exact ⟨es, n, u, h1, h2, h4, h5⟩
theorem op_inKD {X : Cx} : OpR X (compareOp .In) (rInKD X.K X.w) := by
  intro pins s σ H x y v u Q I rx ry h
  obtain ⟨p, z, r, rfl, rfl, ⟨es, n, o, hl, hk, hs, e, ro⟩, q⟩ := h
  obtain rfl : u = Value.ref p := ry
  obtain ⟨t, rfl⟩ := rx
  have hm := PySem.W.mapOf_K (prog := X.prog) (w := X.w) I.kIn hl hk
  refine wpAny_in_of (strKind_is X.prog X.w z t) hs hm ?_
  rw [PySem.W.find_K hl e, ← ro.isSome]
  exact ⟨.bl r.isSome, H, I.tok _, rfl, q⟩
end L2

/-! ## list(zip(xs, ys)) of two lists -/
namespace ListZip
open PySem PySem.Spec PyProof.Rows
theorem zip_no_len : typeLookup (.type "zip") "__len__" = pure none := am_miss_of_fast (by decide +kernel)
theorem zip_no_hint : typeLookup (.type "zip") "__length_hint__" = pure none := am_miss_of_fast (by decide +kernel)
/-- a zip that has given i pairs -/
def ZSt (z TI TO i1 i2 l1 l2 S : Addr) (xs ys : Array Value) (i : Nat) (h : Heap) : Prop :=
  IsPair h TI (.ref i1) (.ref i2) ∧ h.IsListIter i1 l1 i ∧ h.IsListIter i2 l2 i ∧ h.IsList l1 xs ∧ h.IsList l2 ys ∧
  ((IsZip h z TI TO .none ∧ ∃ a b, IsPair h TO a b) ∨ ∃ T f oT, IsZipHeld h z TI TO T f ∧ h.get? T = some oT ∧ T ≠ z ∧ T ≠ i1 ∧ T ≠ i2 ∧ T ≠ S)
/-- the pairs that were collected -/
def Acc (z TO i1 i2 S : Addr) (b0 : Nat) (xs ys : Array Value) (i : Nat) (acc : Array Value) (h : Heap) : Prop :=
  acc.size = i ∧ ∀ j, j < i → ∃ T x y, acc[j]? = some (.ref T) ∧ xs[j]? = some x ∧ ys[j]? = some y ∧ IsPair h T x y ∧ T ≠ z ∧ T ≠ TO ∧ T ≠ i1 ∧ T ≠ i2 ∧ T ≠ S ∧ b0 ≤ T
section
variable {prog : Program} {w : World} {A : Around} {s : Shared} {R : Result → Shared → Prop} {z TI TO i1 i2 l1 l2 S : Addr} {b0 : Nat} {xs ys : Array Value}
theorem ZSt.keep {i : Nat} {h h' : Heap} (x : ZSt z TI TO i1 i2 l1 l2 S xs ys i h) (k : ∀ b o, b ≠ S → h.get? b = some o → h'.get? b = some o) (n1 : TI ≠ S) (n2 : TO ≠ S) (n3 : i1 ≠ S) (n4 : i2 ≠ S) (n5 : l1 ≠ S) (n6 : l2 ≠ S) (n7 : z ≠ S) : ZSt z TI TO i1 i2 l1 l2 S xs ys i h' := by
  obtain ⟨hTI, h1, h2, hl1, hl2, hz⟩ := x
  refine ⟨k _ _ n1 hTI, h1.at fun o e => k _ o n3 e, h2.at fun o e => k _ o n4 e, hl1.at fun o e => k _ o n5 e, hl2.at fun o e => k _ o n6 e, ?_⟩
  rcases hz with ⟨hz, a, b, hTO⟩ | ⟨T, f, oT, hz, hT, r1, r2, r3, r4⟩
  · exact .inl ⟨k _ _ n7 hz, a, b, k _ _ n2 hTO⟩
  · exact .inr ⟨T, f, oT, k _ _ n7 hz, k _ _ r4 hT, r1, r2, r3, r4⟩
theorem Acc.keep {i : Nat} {acc : Array Value} {h h' : Heap} (x : Acc z TO i1 i2 S b0 xs ys i acc h) (k : ∀ b o, b ≠ z → b ≠ TO → b ≠ i1 → b ≠ i2 → b ≠ S → h.get? b = some o → h'.get? b = some o) : Acc z TO i1 i2 S b0 xs ys i acc h' :=
  ⟨x.1, fun j hj => let ⟨T, a, b, e1, e2, e3, e4, r1, r2, r3, r4, r5, r6⟩ := x.2 j hj; ⟨T, a, b, e1, e2, e3, k _ _ r1 r2 r3 r4 r5 e4, r1, r2, r3, r4, r5, r6⟩⟩
theorem loop (hh : A.handled = none) (D : ZipApart z TI TO i1 i2 l1 l2) (n1 : TI ≠ S) (n2 : TO ≠ S) (n3 : i1 ≠ S) (n4 : i2 ≠ S) (n5 : l1 ≠ S) (n6 : l2 ≠ S) (n7 : z ≠ S) (n8 : TO < b0) (hsz : xs.size = ys.size) (hn : xs.size ≤ sizeLine) (res : Value) :
    ∀ (k i : Nat) (s : Shared) (acc : Array Value) (c : Nat), xs.size - i = k → i ≤ xs.size → b0 ≤ s.heap.objs.size → ZSt z TI TO i1 i2 l1 l2 S xs ys i s.heap → s.heap.get? S = some { cls := .type "list", dict := none, data := .seq acc c, slots := #[] } → Acc z TO i1 i2 S b0 xs ys i acc s.heap →
    (∀ h' acc' c', (∀ b o, b ≠ z → b ≠ TO → b ≠ i1 → b ≠ i2 → b ≠ S → s.heap.get? b = some o → h'.get? b = some o) → h'.get? S = some { cls := .type "list", dict := none, data := .seq acc' c', slots := #[] } → Acc z TO i1 i2 S b0 xs ys xs.size acc' h' → R (.ok (.ret res)) { s with heap := h' }) →
    codeAny (model prog w) A (.builtin "list.extend.loop" ⟨[.ref S, .ref z, res], []⟩) R s := by
  intro k
  induction k with
  | zero =>
    intro i s acc c hk hi hb hst hS hacc hR
    have hin : i = xs.size := by omega
    subst hin
    refine codeAny_builtin F.entry_extend_loop ?_
    rw [Around.under_plainId F.plain_extend_loop _]
    show wpAny _ A.in1 (pyNext (.ref z) >>= _) _ _ s
    obtain ⟨hTI, h1, h2, hl1, hl2, hz⟩ := hst
    have hend : xs[xs.size]? = none ∨ ys[xs.size]? = none := .inl (Array.getElem?_eq_none (Nat.le_refl _))
    rcases hz with ⟨hz, a, b, hTO⟩ | ⟨T, f, oT, hz, hT, r1, r2, r3, r4⟩
    · refine wpAny_bind (wpAny_pyNext_zip_end hh D hz hTI hTO h1 h2 hl1 hl2 hend fun h' hk => ?_)
      exact wpAny_pure (hR h' acc c (fun b o q1 q2 q3 q4 q5 e => hk b o q1 q2 q3 q4 e) (hk _ _ n7.symm n2.symm n3.symm n4.symm hS) (hacc.keep fun b o q1 q2 q3 q4 q5 e => hk b o q1 q2 q3 q4 e))
    · refine wpAny_bind (wpAny_pyNext_zip_end_held hh D hz hT hTI h1 h2 hl1 hl2 hend fun h' hk => ?_)
      exact wpAny_pure (hR h' acc c (fun b o q1 q2 q3 q4 q5 e => hk b o q1 q3 q4 e) (hk _ _ n7.symm n3.symm n4.symm hS) (hacc.keep fun b o q1 q2 q3 q4 q5 e => hk b o q1 q3 q4 e))
  | succ k ih =>
    intro i s acc c hk hi hb hst hS hacc hR
    have hix : i < xs.size := by omega
    have hiy : i < ys.size := by omega
    have ex := Array.getElem?_eq_getElem hix
    have ey := Array.getElem?_eq_getElem hiy
    refine codeAny_builtin F.entry_extend_loop ?_
    rw [Around.under_plainId F.plain_extend_loop _]
    show wpAny _ A.in1 (pyNext (.ref z) >>= _) _ _ s
    have key : ∀ (h' : Heap), (∀ b o, b ≠ z → b ≠ TO → b ≠ i1 → b ≠ i2 → s.heap.get? b = some o → h'.get? b = some o) → ZSt z TI TO i1 i2 l1 l2 S xs ys (i + 1) h' → IsPair h' s.heap.objs.size xs[i] ys[i] → h'.objs.size = s.heap.objs.size + 1 →
        s.heap.objs.size ≠ z → s.heap.objs.size ≠ TO → s.heap.objs.size ≠ i1 → s.heap.objs.size ≠ i2 → s.heap.objs.size ≠ S →
        wpAny (model prog w) A.in1 (updateSeq S (·.push (.ref s.heap.objs.size)) >>= fun _ => again (.builtin "list.extend.loop" ⟨[.ref S, .ref z, res], []⟩))
          (fun fin s' => match fin with | .done f => R (.ok f) s' | .again c' => c'.quiet = true ∧ codeAny (model prog w) A c' R s') (fun e s' => R (.error e) s') { s with heap := h' } := by
      intro h' hk' st' hp hs' m1 m2 m3 m4 m5
      have hS' := hk' S _ n7.symm n2.symm n3.symm n4.symm hS
      refine wpAny_bind ?_
      have oth : ∀ b o, b ≠ S → h'.get? b = some o → (h'.update S (Obj.mapSeq (·.push (.ref s.heap.objs.size)))).get? b = some o := fun b o hb e => (Heap.get?_update_other _ _ (Ne.symm hb)).trans e
      refine wpAny_updateSeq hS' rfl (wpAny_pure ⟨plainId_quiet F.plain_extend_loop _, ih (i + 1) _ (acc.push (.ref s.heap.objs.size)) _ (by omega) hix (by show b0 ≤ (h'.update S _).objs.size; rw [Heap.size_update, hs']; omega) (st'.keep oth n1 n2 n3 n4 n5 n6 n7) (Heap.get?_update_self _ hS' rfl) ⟨by rw [Array.size_push, hacc.1], fun j hj => ?_⟩ fun h'' acc' c' hm hS'' ha => ?_⟩)
        (by rw [hacc.1]; omega) (by show (acc.push _).size ≤ sizeLine + 1; rw [Array.size_push, hacc.1]; omega)
      · rcases Nat.lt_or_ge j i with q | q
        · obtain ⟨T, a, b, e1, e2, e3, e4, r1, r2, r3, r4, r5, r6⟩ := hacc.2 j q
          refine ⟨T, a, b, ?_, e2, e3, oth _ _ r5 (hk' _ _ r1 r2 r3 r4 e4), r1, r2, r3, r4, r5, r6⟩
          rw [Array.getElem?_push, if_neg (by rw [hacc.1]; omega)]
          exact e1
        · obtain rfl : j = i := by omega
          refine ⟨s.heap.objs.size, _, _, ?_, ex, ey, oth _ _ m5 hp, m1, m2, m3, m4, m5, hb⟩
          rw [Array.getElem?_push, if_pos hacc.1.symm]
      · exact hR h'' acc' c' (fun b o q1 q2 q3 q4 q5 e => hm b o q1 q2 q3 q4 q5 (oth b o q5 (hk' b o q1 q2 q3 q4 e))) hS'' ha
    obtain ⟨hTI, h1, h2, hl1, hl2, hz⟩ := hst
    have lt : ∀ {c o}, s.heap.get? c = some o → s.heap.objs.size ≠ c := fun e => Nat.ne_of_gt (Heap.lt_size e)
    have m1 : s.heap.objs.size ≠ i1 := let ⟨_, e, _⟩ := h1; lt e
    have m2 : s.heap.objs.size ≠ i2 := let ⟨_, e, _⟩ := h2; lt e
    rcases hz with ⟨hz, a, b, hTO⟩ | ⟨T, f, oT, hz, hT, r1, r2, r3, r4⟩
    · refine wpAny_bind (wpAny_pyNext_zip_item D hz hTI hTO h1 h2 hl1 hl2 ex ey fun h' a1 a2 a3 a4 a5 a6 hk => ?_)
      refine key h' hk ⟨hk _ _ D.TIz D.TITO D.TIi1 D.TIi2 hTI, a3, a4, hl1.at fun o e => hk _ o D.l1z D.l1TO D.l1i1 D.l1i2 e, hl2.at fun o e => hk _ o D.l2z D.l2TO D.l2i1 D.l2i2 e, .inr ⟨s.heap.objs.size, false, _, a1, a5, lt hz, m1, m2, lt hS⟩⟩ a5 ?_ (lt hz) (lt hTO) m1 m2 (lt hS)
      exact a6
    · have m3 : s.heap.objs.size ≠ TO := fun e => by rw [← e] at n8; exact absurd (Nat.lt_of_lt_of_le n8 hb) (Nat.lt_irrefl _)
      refine wpAny_bind (wpAny_pyNext_zip_item_held D hz hT hTI h1 h2 hl1 hl2 ex ey fun h' a1 a3 a4 a5 a6 hk => ?_)
      exact key h' (fun b o q1 q2 q3 q4 e => hk b o q1 q3 q4 e) ⟨hk _ _ D.TIz D.TIi1 D.TIi2 hTI, a3, a4, hl1.at fun o e => hk _ o D.l1z D.l1i1 D.l1i2 e, hl2.at fun o e => hk _ o D.l2z D.l2i1 D.l2i2 e, .inr ⟨T, true, oT, a1, hk _ _ r1 r2 r3 hT, r1, r2, r3, r4⟩⟩ a5 a6 (lt hz) m3 m1 m2 (lt hS)
theorem init (hh : A.handled = none) (D : ZipApart z TI TO i1 i2 l1 l2) (n1 : TI ≠ S) (n2 : TO ≠ S) (n3 : i1 ≠ S) (n4 : i2 ≠ S) (n5 : l1 ≠ S) (n6 : l2 ≠ S) (n7 : z ≠ S) (n8 : TO < b0) (hsz : xs.size = ys.size) (hn : xs.size ≤ sizeLine) (hb : b0 ≤ s.heap.objs.size)
    (hz : IsZip s.heap z TI TO .none) (hTI : IsPair s.heap TI (.ref i1) (.ref i2)) (hTO : ∃ a b, IsPair s.heap TO a b) (h1 : s.heap.IsListIter i1 l1 0) (h2 : s.heap.IsListIter i2 l2 0) (hl1 : s.heap.IsList l1 xs) (hl2 : s.heap.IsList l2 ys)
    (hS : s.heap.get? S = some { cls := .type "list", data := .seq #[] })
    (hR : ∀ h' acc' c', (∀ b o, b ≠ z → b ≠ TO → b ≠ i1 → b ≠ i2 → b ≠ S → s.heap.get? b = some o → h'.get? b = some o) → h'.get? S = some { cls := .type "list", dict := none, data := .seq acc' c', slots := #[] } → Acc z TO i1 i2 S b0 xs ys xs.size acc' h' → R (.ok (.ret .none)) { s with heap := h' }) :
    wpAny (model prog w) A.in1 (Builtin.«list.__init__» ⟨[.ref S, .ref z], []⟩)
      (fun fin s' => match fin with | .done f => R (.ok f) s' | .again c' => c'.quiet = true ∧ codeAny (model prog w) A c' R s') (fun e s' => R (.error e) s') s := by
  show wpAny _ A.in1 (do let old ← Builtin.List.listItems (.ref S); Builtin.List.listUpdate (.ref S) (fun _ => #[]); letGo old.toList.reverse; Builtin.List.listExtendWith (.ref S) (.ref z) .none) _ _ s
  refine wpAny_bind ?_
  unfold Builtin.List.listItems
  refine wpAny_bind (wpAny_seqItems hS rfl (wpAny_pure ?_))
  show wpAny _ A.in1 (updateSeq S (fun _ => #[]) >>= fun _ => letGo (#[] : Array Value).toList.reverse >>= fun _ => Builtin.List.listExtendWith (.ref S) (.ref z) .none) _ _ s
  refine wpAny_bind (wpAny_updateSeq hS rfl ?_)
  have hS2 := Heap.get?_update_self (Obj.mapSeq (fun _ => (#[] : Array Value))) hS rfl
  have oth0 : ∀ b o, b ≠ S → s.heap.get? b = some o → (s.heap.update S (Obj.mapSeq (fun _ => (#[] : Array Value)))).get? b = some o :=
    fun b o hb e => (Heap.get?_update_other _ _ (Ne.symm hb)).trans e
  refine wpAny_bind (wpAny_letGo ?_)
  have hz' := oth0 _ _ n7 hz
  have hT : ({ s with heap := s.heap.update S (Obj.mapSeq (fun _ => (#[] : Array Value))) } : Shared).TypeIs (.ref z) "zip" := ⟨_, hz', rfl⟩
  unfold Builtin.List.listExtendWith
  refine wpAny_bind (wpAny_typeOf hT ?_)
  have e1 : Builtin.List.listSameRef (.ref S) (.ref z) = false := by simp [Builtin.List.listSameRef, n7.symm]
  have e2 : (Value.type "zip" == Value.type "list") = false := by decide
  have e3 : (Value.type "zip" == Value.type "tuple") = false := by decide
  simp only [e1, e2, e3, Bool.or_false, Bool.false_eq_true, if_false]
  refine wpAny_bind (wpAny_pyIter_zip hz' ?_)
  refine wpAny_bind (wpAny_holding ?_)
  unfold Builtin.List.listLengthHint
  refine wpAny_bind (wpAny_specialOf hT zip_no_len ?_)
  show wpAny _ A.in1 (specialOf (Value.ref z) (Str.ofString "__length_hint__") >>= _) _ _ _
  refine wpAny_bind (wpAny_specialOf hT zip_no_hint ?_)
  refine wpAny_pure ?_
  show wpAny _ A.in1 (rule "list.extend.makes-room" >>= fun _ => Builtin.List.listTouch (.ref S) >>= fun _ =>
    again (.builtin "list.extend.loop" ⟨[.ref S, .ref z, .none], []⟩)) _ _ _
  refine wpAny_bind (wpAny_rule ?_)
  refine wpAny_bind ?_
  show wpAny _ A.in1 (updateSeq S (·.push .none) >>= fun _ => updateSeq S (·.pop)) _ _ _
  refine wpAny_bind (wpAny_updateSeq hS2 rfl ?_)
  have hS3 := Heap.get?_update_self (Obj.mapSeq (·.push Value.none)) hS2 rfl
  refine wpAny_updateSeq (hz := by seq_fits) hS3 rfl ?_
  have hS4 := Heap.get?_update_self (Obj.mapSeq (·.pop)) hS3 rfl
  have oth : ∀ b o, b ≠ S → s.heap.get? b = some o → (((s.heap.update S (Obj.mapSeq (fun _ => (#[] : Array Value)))).update S (Obj.mapSeq (·.push Value.none))).update S (Obj.mapSeq (·.pop))).get? b = some o :=
    fun b o hb e => (Heap.get?_update_other _ _ (Ne.symm hb)).trans ((Heap.get?_update_other _ _ (Ne.symm hb)).trans (oth0 b o hb e))
  have st0 : ZSt z TI TO i1 i2 l1 l2 S xs ys 0 s.heap := ⟨hTI, h1, h2, hl1, hl2, .inl ⟨hz, hTO⟩⟩
  refine wpAny_pure ⟨plainId_quiet F.plain_extend_loop _, loop hh D n1 n2 n3 n4 n5 n6 n7 n8 hsz hn _ xs.size 0 _ _ _ rfl (Nat.zero_le _) (by show b0 ≤ Array.size _; simpa [Heap.size_update] using hb) (st0.keep oth n1 n2 n3 n4 n5 n6 n7) hS4 ⟨rfl, fun j hj => absurd hj (Nat.not_lt_zero j)⟩ fun h' acc' c' hm hS' ha => ?_⟩
  exact hR h' acc' c' (fun b o q1 q2 q3 q4 q5 e => hm b o q1 q2 q3 q4 q5 (oth b o q5 e)) hS' ha
end
end ListZip

namespace L2
open PySem PySem.Spec PyProof.Rows ListZip
/-- list(zip(xs, ys)): a new list p of new pairs -/
def tListZip (K : PySem.W.Frag) (ta : TA) : TE := fun σ H Q => ta σ H fun vs H1 => ∃ a b xs ys, vs = [.ref a, .ref b] ∧ SqL K H1 a xs ∧ SqL K H1 b ys ∧ xs.length = ys.length ∧
  ∀ (p : Addr) (Ts : List Addr) (H' : Hp), H1 p = none → Same H1 H' → H' p = some (.lst (Ts.map V.ref)) → Ts.length = xs.length →
    (∀ (j : Nat) (t : Addr) (x y : V), Ts[j]? = some t → xs[j]? = some x → ys[j]? = some y → H1 t = none ∧ t ≠ p ∧ H' t = some (.tup [x, y])) → Q (.ref p) H'
theorem boot_listT : bootBuiltins "list" = some (.type "list") := by decide +kernel
open Classical in
theorem pe_listZip {X : Cx} {e e2 : Expr} {ta : TA} {p p2 q pos : Pos} (hgl : Gl X "list") (hml : X.mg "list" = none) (hg : Gl X "zip") (hm : X.mg "zip" = none) (ha : PA X [e, e2] ta) (hc : X.calm = true := by rfl)
    (hs : starEach [e, e2] X.env = (false, eval e X.env) :: starEach [e2] X.env := by rfl) (hpl : (backTo q (starEach [e2] X.env)).any (·.1) = false := by rfl)
    (na : starEach [.Call (.Name "zip" p2) [e, e2] [] q] X.env = (false, eval (.Call (.Name "zip" p2) [e, e2] [] q) X.env) :: starEach [] X.env := by rfl) :
    PE X (.Call (.Name "list" p) [.Call (.Name "zip" p2) [e, e2] [] q] [] pos) (tListZip X.K ta) := by
  refine ⟨fun pins s σ H Q I h => Call_ (ld_blt I hgl hml boot_listT ?_)⟩
  refine callWith_type1 (args_cons ?_ rfl) na rfl
  refine Call_ (ld_blt I hg hm PyProof.Rows.boot_zip (PyProof.Rows.callWith_type1 (thn (ha.run q pins s σ H _ I h) fun us s1 ⟨vs, H1, I1, r1, q1⟩ => ?_) hs hpl))
  obtain ⟨a, b, xs, ys, ex, hqx, hqy, hlen, k⟩ := q1
  subst ex
  cases r1 with
  | cons r rr =>
    cases rr with
    | cons r' rr =>
      cases rr
      cases r
      cases r'
      obtain ⟨its, rv, p1, hz1⟩ := I1.list hqx
      obtain ⟨its2, rv2, p2, hz2⟩ := I1.list hqy
      have la : Nat.lt a s1.heap.objs.size := p1.lt
      have lb : Nat.lt b s1.heap.objs.size := p2.lt
      refine call_zip_2 p1.isList p2.isList fun h' hz hTI hTO h1 h2 hsz hk => args_nil ?_
      have D := PySem.W.ktu_apart s1.heap.objs.size a b la lb
      have hsz' : h'.objs.size = s1.heap.objs.size + 5 := hsz
      have psh : ∀ {c o}, h'.get? c = some o → (h'.push { cls := .type "list", data := .seq #[] }).get? c = some o := fun e => Heap.get?_push_of_some _ e
      have ne5 : ∀ c : Nat, c < s1.heap.objs.size + 5 → c ≠ h'.objs.size := fun c hc => by rw [hsz']; omega
      have lt5 : ∀ c : Nat, c < s1.heap.objs.size → ∀ k : Nat, c ≠ s1.heap.objs.size + k := fun c hc k => by omega
      have lt6 : ∀ c : Nat, c < s1.heap.objs.size → c < s1.heap.objs.size + 5 := fun c hc => by omega
      refine callType_codes (Q₁ := fun obj s₁ => obj = .ref h'.objs.size ∧ s₁ = { s1 with heap := h'.push { cls := .type "list", data := .seq #[] } }) F.called_list (F.typeCall_list_1 _) F.entry_list_init
        (code_list_new (s := { s1 with heap := h' }) _ ⟨rfl, rfl⟩) fun obj s₁ e₁ => ?_
      obtain ⟨rfl, rfl⟩ := e₁
      have hS : (h'.push { cls := .type "list", data := .seq #[] }).get? h'.objs.size = some { cls := .type "list", data := .seq #[] } := Heap.get?_push_size _ rfl
      have xl := rv.length
      have yl := rv2.length
      refine ⟨⟨_, hS, rfl⟩, F.args_list_init_2 _ _, ListZip.init (s := { s1 with heap := h'.push { cls := .type "list", data := .seq #[] } }) (I1.ok.hd hc) D (ne5 _ (by omega)) (ne5 _ (by omega)) (ne5 _ (by omega)) (ne5 _ (by omega)) (ne5 _ (lt6 _ la)) (ne5 _ (lt6 _ lb)) (ne5 _ (by omega))
        (b0 := s1.heap.objs.size + 5) (Nat.add_lt_add_left (by decide) _) (xs := its.toArray) (ys := its2.toArray) (by simp; omega) (by simp; omega) (by show _ ≤ (h'.push _).objs.size; rw [Heap.size_push, hsz']; omega) (psh hz) (psh hTI) ⟨_, _, psh hTO⟩ (h1.at fun _ e => psh e) (h2.at fun _ e => psh e) (p1.isList.at fun _ e => psh (hk _ _ e)) (p2.isList.at fun _ e => psh (hk _ _ e)) hS fun h2' acc' c' hm' hS' hacc => ⟨rfl, ?_⟩⟩
      -- the heap behind
      have old : ∀ c o, s1.heap.get? c = some o → h2'.get? c = some o := fun c o e => by
        have hl : Nat.lt c s1.heap.objs.size := Heap.lt_size e
        exact hm' c o (lt5 c hl 4) (lt5 c hl 3) (lt5 c hl 0) (lt5 c hl 1) (ne5 c (lt6 c hl)) (psh (hk c o e))
      obtain ⟨hsa, hT⟩ := hacc
      have hsa' : acc'.size = xs.length := by rw [hsa]; simp; omega
      have hT' : ∀ j, j < xs.length → ∃ (T : Nat) (x y : Value), acc'[j]? = some (.ref T) ∧ its[j]? = some x ∧ its2[j]? = some y ∧ h2'.get? T = some { cls := .type "tuple", data := .seq #[x, y] } ∧ T ≠ h'.objs.size ∧ s1.heap.objs.size + 5 ≤ T := fun j hj => by
        obtain ⟨T, x, y, g1, g2, g3, g4, r1, r2, r3, r4, r5, r6⟩ := hT j (by simp; omega)
        exact ⟨T, x, y, g1, by simpa using g2, by simpa using g3, g4, r5, r6⟩
      have ref : ∀ u ∈ acc'.toList, ∃ T : Nat, u = .ref T := fun u hu => by
        obtain ⟨j, hj, e⟩ := List.getElem_of_mem hu
        obtain ⟨T, x, y, g1, _⟩ := hT' j (by rw [← hsa']; simpa using hj)
        rw [← Array.getElem?_toList, List.getElem?_eq_getElem hj, e] at g1
        exact ⟨T, Option.some.inj g1⟩
      obtain ⟨Ts, hTs⟩ : ∃ Ts : List Addr, acc'.toList = Ts.map Value.ref := by
        generalize acc'.toList = l at ref
        induction l with
        | nil => exact ⟨[], rfl⟩
        | cons u r ih =>
          obtain ⟨T, rfl⟩ := ref u List.mem_cons_self
          obtain ⟨Ts, e⟩ := ih fun v hv => ref v (List.mem_cons_of_mem _ hv)
          exact ⟨T :: Ts, by rw [e]; rfl⟩
      have hTl : Ts.length = xs.length := by
        have := congrArg List.length hTs
        rw [List.length_map] at this
        rw [← this, ← hsa']
        simp
      have at_ : ∀ (j : Nat) (t : Addr), Ts[j]? = some t → ∃ (x y : Value), its[j]? = some x ∧ its2[j]? = some y ∧ h2'.get? t = some { cls := .type "tuple", data := .seq #[x, y] } ∧ t ≠ h'.objs.size ∧ Nat.le (s1.heap.objs.size + 5) t := fun j t ht => by
        have hj : j < xs.length := by rw [← hTl]; exact (List.getElem?_eq_some_iff.mp ht).1
        obtain ⟨T, x, y, g1, g2, g3, g4, g5, g6⟩ := hT' j hj
        rw [← Array.getElem?_toList, hTs, List.getElem?_map, ht] at g1
        cases Option.some.inj g1
        exact ⟨x, y, g2, g3, g4, g5, g6⟩
      have uq : ∀ (j j' : Nat) (t : Addr) (x y x' y' : V), Ts[j]? = some t → xs[j]? = some x → ys[j]? = some y → Ts[j']? = some t → xs[j']? = some x' → ys[j']? = some y' → x = x' ∧ y = y' := fun j j' t x y x' y' e1 e2 e3 e4 e5 e6 => by
        obtain ⟨u, v, g1, g2, g3, _⟩ := at_ j t e1
        obtain ⟨u', v', f1, f2, f3, _⟩ := at_ j' t e4
        rw [g3] at f3
        have ea : (#[u, v] : Array Value) = #[u', v'] := by injection (Option.some.inj f3) with _ _ z; injection z
        have el : [u, v] = [u', v'] := congrArg Array.toList ea
        injection el with eu el
        injection el with ev _
        subst eu; subst ev
        obtain ⟨w1, a1, b1⟩ := rv.get e2
        obtain ⟨w2, a2, b2⟩ := rv2.get e3
        obtain ⟨w3, a3, b3⟩ := rv.get e5
        obtain ⟨w4, a4, b4⟩ := rv2.get e6
        rw [g1] at a1; cases a1
        rw [g2] at a2; cases a2
        rw [f1] at a3; cases a3
        rw [f2] at a4; cases a4
        exact ⟨Option.some.inj (b1.abs.symm.trans b3.abs), Option.some.inj (b2.abs.symm.trans b4.abs)⟩
      let Pr : Addr → V → V → Prop := fun t x y => ∃ j : Nat, Ts[j]? = some t ∧ xs[j]? = some x ∧ ys[j]? = some y
      let H2 : Hp := fun t => if t = h'.objs.size then some (.lst (Ts.map V.ref)) else if h : ∃ xy : V × V, Pr t xy.1 xy.2 then some (.tup [(Classical.choose h).1, (Classical.choose h).2]) else H1 t
      have H2S : H2 h'.objs.size = some (.lst (Ts.map V.ref)) := if_pos rfl
      have H2T : ∀ (t : Addr) (x y : V), t ≠ h'.objs.size → Pr t x y → H2 t = some (.tup [x, y]) := fun t x y n pr => by
        have h : ∃ xy : V × V, Pr t xy.1 xy.2 := ⟨(x, y), pr⟩
        show (if t = h'.objs.size then some (HO.lst (Ts.map V.ref)) else if h : ∃ xy : V × V, Pr t xy.1 xy.2 then some (.tup [(Classical.choose h).1, (Classical.choose h).2]) else H1 t) = _
        rw [if_neg n, dif_pos h]
        obtain ⟨j, e1, e2, e3⟩ := Classical.choose_spec h
        obtain ⟨j', f1, f2, f3⟩ := pr
        obtain ⟨q1, q2⟩ := uq j j' t _ _ x y e1 e2 e3 f1 f2 f3
        rw [q1, q2]
      have H2N : ∀ t : Addr, Nat.lt t s1.heap.objs.size → H2 t = H1 t := fun t hl => by
        show (if t = h'.objs.size then some (HO.lst (Ts.map V.ref)) else if h : ∃ xy : V × V, Pr t xy.1 xy.2 then some (.tup [(Classical.choose h).1, (Classical.choose h).2]) else H1 t) = _
        rw [if_neg (ne5 t (lt6 t hl)), dif_neg]
        rintro ⟨xy, j, e1, _⟩
        obtain ⟨_, _, _, _, _, _, g⟩ := at_ j t e1
        exact absurd (Nat.lt_of_lt_of_le (lt6 t hl) g) (Nat.lt_irrefl _)
      have lt1 : ∀ (t : Addr) (o : HO), H1 t = some o → Nat.lt t s1.heap.objs.size := fun t o e => by
        rcases Nat.lt_or_ge t s1.heap.objs.size with z | z
        · exact z
        · rw [I1.hok.fresh z] at e; cases e
      have sm : Same H1 H2 := fun t o e => by rw [H2N t (lt1 t o e)]; exact e
      have un : Un X.fs [] H1 H2 s1.heap h2' := ⟨fun b o e _ _ _ => old b o e, fun b o e _ _ _ => ⟨o.slots, old b o e⟩, fun b o e n _ => by rw [H2N b (Heap.lt_size e)]; exact n, fun b o e _ => ⟨o, old b o e⟩, fun b xs e => sm b _ e, fun b o u e => sm b _ e, fun b ps e => ⟨#[], by rw [sm b _ e]; simp⟩⟩
      have tl : ∀ t ∈ Ts.map V.ref, ∃ c, t = V.ref c := fun t ht => by
        obtain ⟨c, _, e⟩ := List.mem_map.mp ht
        exact ⟨c, e.symm⟩
      have hok : HOk X.prog X.w H2 h2' := fun b u e => by
        by_cases c1 : b = h'.objs.size
        · rw [c1, H2S] at e
          cases e
          rw [c1]
          refine ⟨by rw [List.length_map, hTl]; exact hz1, acc'.toList, c', ?_, hS'⟩
          rw [hTs]
          clear hTs hTl at_ uq H2S H2T H2N sm un tl
          induction Ts with
          | nil => exact .nil
          | cons t r ih => exact .cons rfl ih
        · by_cases c2 : ∃ xy : V × V, Pr b xy.1 xy.2
          · obtain ⟨⟨x, y⟩, pr⟩ := c2
            rw [H2T b x y c1 pr] at e
            cases e
            obtain ⟨j, e1, e2, e3⟩ := pr
            obtain ⟨u, v, g1, g2, g3, _⟩ := at_ j b e1
            obtain ⟨w1, a1, b1⟩ := rv.get e2
            obtain ⟨w2, a2, b2⟩ := rv2.get e3
            rw [g1] at a1; cases a1
            rw [g2] at a2; cases a2
            exact ⟨by show 2 ≤ sizeLine; decide, [u, v], .cons b1 (.cons b2 .nil), ⟨_, g3, rfl, _, rfl⟩⟩
          · have e' : H1 b = some u := by
              have z : H2 b = H1 b := by
                show (if b = h'.objs.size then some (HO.lst (Ts.map V.ref)) else if h : ∃ xy : V × V, Pr b xy.1 xy.2 then some (.tup [(Classical.choose h).1, (Classical.choose h).2]) else H1 b) = _
                rw [if_neg c1, dif_neg c2]
              rw [← z]; exact e
            exact (I1.hok b u e').stay (fun c v _ q => old c v q) (fun c q => sm c _ q) fun c xs q => sm c _ q
      have I2 : Inv X pins σ H2 { s1 with heap := h2' } := I1.un (t' := s1.toks) un hok
      refine ⟨.ref h'.objs.size, H2, I2, rfl, k _ Ts H2 (I1.hok.fresh (by rw [hsz']; exact Nat.le_add_right _ _)) sm H2S hTl fun j t x y e1 e2 e3 => ?_⟩
      obtain ⟨_, _, _, _, _, g5, g6⟩ := at_ j t e1
      exact ⟨I1.hok.fresh (Nat.le_trans (Nat.le_add_right _ _) g6), g5, H2T t x y g5 ⟨j, e1, e2, e3⟩⟩
end L2

namespace L2
open PySem PySem.Spec PyProof.Rows
def rInDT (K : PySem.W.Frag) : R2 := fun x y H Q => ∃ d ds, Dp K H x d ∧ Dp K H y (.tuple ds) ∧ SeqAt.shaped d = true ∧ SeqAt.shaped (.tuple ds) = true ∧ Q (.bl (ds.any fun z => PyData.eqv z d)) H
theorem op_inDT {X : Cx} (hu : X.A.units + 65 < cLine) : OpR X (compareOp .In) (rInDT X.K) := by
  intro pins s σ H x y v u Q I rx ry h
  obtain ⟨d, ds, hd, he, sd, se, q⟩ := h
  obtain ⟨as, r1⟩ := Dp.reads I d x v hd rx
  obtain ⟨bs, r2⟩ := Dp.reads I (.tuple ds) y u he ry
  exact SeqAt.in_tuple_reads r2 r1 (SeqAt.canLay_of_shaped se) (SeqAt.canLay_of_shaped sd) (room_in_shaped sd hu) ⟨.bl _, H, I, rfl, q⟩
theorem DpAll.length {K : PySem.W.Frag} {H : Hp} : ∀ {vs : List V} {ds : List PyData}, DpAll K H vs ds → vs.length = ds.length
  | _, _, .nil => rfl
  | _, _, .cons _ t => by rw [List.length_cons, List.length_cons, DpAll.length t]
theorem DpAll.get {K : PySem.W.Frag} {H : Hp} : ∀ {vs : List V} {ds : List PyData} {i : Nat} {d : PyData}, DpAll K H vs ds → ds[i]? = some d → ∃ v, vs[i]? = some v ∧ Dp K H v d
  | _, _, _, _, .nil, e => by simp at e
  | _, _, 0, _, .cons h _, e => by simp at e; subst e; exact ⟨_, rfl, h⟩
  | _, _, i + 1, d, .cons _ t, e => by
    obtain ⟨v, h1, h2⟩ := DpAll.get (i := i) (d := d) t (by simpa using e)
    exact ⟨v, by simpa using h1, h2⟩
theorem DpAll.keep {K : PySem.W.Frag} {H H' : Hp} (s : Same H H') : ∀ {vs : List V} {ds : List PyData}, DpAll K H vs ds → DpAll K H' vs ds
  | _, _, .nil => .nil
  | _, _, .cons h t => .cons (h.keep s) (DpAll.keep s t)
theorem Same.sqT {K : PySem.W.Frag} {H H' : Hp} {a : Addr} {xs : List V} (s : Same H H') (q : SqT K H a xs) : SqT K H' a xs := by
  rcases q with (q | ⟨o, q⟩) | q
  · exact .inl (.inl (s _ _ q))
  · exact .inl (.inr ⟨o, s _ _ q⟩)
  · exact .inr q
theorem same_upd {H : Hp} {p : Addr} {o : HO} (hp : H p = none) : Same H (upd H p o) := fun q u hq => by rw [upd_ne (ne_of_none hq hp)]; exact hq
theorem ifF {c : Bool} {A B : Prop} (hc : c = false) (h : B) : if c = true then A else B := by
  rw [hc, if_neg Bool.false_ne_true]
  exact h
theorem ifT {c : Bool} {A B : Prop} (hc : c = true) (h : A) : if c = true then A else B := by
  rw [if_pos hc]
  exact h
def isTy (d : PyData) (T : String) : Option Bool := kitB (tyD d) T
theorem is_data {K : PySem.W.Frag} {H : Hp} {v : V} {d : PyData} {T : String} {b : Bool} {Q : VK} (h : Dp K H v d) (e : kitB (tyD d) T = some b) (q : Q (.bl b) H) : rIsi K [v, .ty T] H Q :=
  ⟨v, .ty T, _, _, b, rfl, .ty T, dp_ty h, kit_ty e, q⟩
theorem del_upd {H : Hp} {p : Addr} {o : HO} : del (upd H p o) p = del H p := by
  funext b
  by_cases e : b = p
  · rw [e, del_same, del_same]
  · rw [del_ne e, del_ne e, upd_ne e]
theorem same_del {H : Hp} {p : Addr} : Same (del H p) H := fun b o h => by
  by_cases e : b = p
  · rw [e, del_same] at h; cases h
  · rw [del_ne e] at h; exact h
theorem Same.del {H H' : Hp} {p : Addr} (s : Same H H') : Same (L2.del H p) (L2.del H' p) := fun b o h => by
  by_cases e : b = p
  · rw [e, del_same] at h; cases h
  · rw [del_ne e] at h ⊢; exact s b o h
theorem Same.updl {H H' : Hp} {p : Addr} {o : HO} (s : Same H H') (hp : H p = none) : Same H (upd H' p o) := fun b u h => by
  rw [upd_ne (ne_of_none h hp)]
  exact s b u h
theorem del_new {H : Hp} {p t : Addr} {o u : HO} (hp : H p = some u) (ht : H t = none) : Same (del H p) (del (upd H t o) p) := (same_upd ht).del
end L2
namespace K40
open PySem PySem.Spec PyProof.Rows L2 Rg
def isI : D → Bool | .int _ => true | .bool _ => true | _ => false
def isB : D → Bool | .bool _ => true | _ => false
def isS : D → Bool | .str _ => true | _ => false
def isL : D → Bool | .list _ => true | _ => false
section
variable {K : PySem.W.Frag} {H : Hp} {v : V} {d : D}
theorem kit_int (h : Dp K H v d) : kitB (tyD d) "int" = some (isI d) := by cases h <;> kernel_rfl
theorem kit_bool (h : Dp K H v d) : kitB (tyD d) "bool" = some (isB d) := by cases h <;> kernel_rfl
theorem kit_str (h : Dp K H v d) : kitB (tyD d) "str" = some (isS d) := by cases h <;> kernel_rfl
theorem kit_list (h : Dp K H v d) : kitB (tyD d) "list" = some (isL d) := by cases h <;> kernel_rfl
theorem kit_tup (h : Dp K H v d) : kitB (tyD d) "tuple" = some (isT d) := by cases h <;> kernel_rfl
end
def Raw (K : PySem.W.Frag) (mg : Str → Option Value) (nm : Str) (st : Stmt) (ps : List Str) : Prop := ∃ (f : Addr) (fd : FuncData), Fun K nm nm st f fd ∧ mg nm = some (.ref f) ∧ Binds K fd ps []
def Def (P : Program) (w : World) (K : PySem.W.Frag) (mg : Str → Option Value) (base : Heap) (CX : CXT) (nm : Str) (k : Nat) (ps : List Str) (sp : Sp) : Prop :=
  ∃ (f : Addr) (fd : FuncData), FnOk P w K mg base CX k f fd ps sp ∧ mg nm = some (.ref f) ∧ PySem.W.keepIn K (.ref f) = true ∧ Binds K fd ps []
theorem Raw.def {P : Program} {w : World} {K : PySem.W.Frag} {mg : Str → Option Value} {base : Heap} {CX : CXT} {nm : Str} {st : Stmt} {ps : List Str} {k : Nat} {sp : Sp} (R : Raw K mg nm st ps) (h : ∀ f fd, Fun K nm nm st f fd → FnOk P w K mg base CX k f fd ps sp) : Def P w K mg base CX nm k ps sp :=
  let ⟨f, fd, F, g, b⟩ := R; ⟨f, fd, h f fd F, g, F.kp, b⟩
def spB (K : PySem.W.Frag) (f : D → Bool) : Sp := fun vs H Q _ => ∃ (v : V) (d : D), vs = [v] ∧ Dp K H v d ∧ ∀ H', Same H H' → Q (.bl (f d)) H'
theorem dp_tup {K : PySem.W.Frag} {H : Hp} {v : V} {ds : List D} (h : Dp K H v (.tuple ds)) : ∃ a vs, v = .ref a ∧ SqT K H a vs ∧ DpAll K H vs ds := by
  cases h with
  | tup q r => exact ⟨_, _, rfl, q, r⟩
theorem isT_tup {d : D} (h : isT d = true) : ∃ ds, d = .tuple ds := by
  cases d <;> simp [isT] at h
  exact ⟨_, rfl⟩
theorem two {α : Type} {l : List α} (h : l.length = 2) : ∃ x y, l = [x, y] := match l, h with | [x, y], _ => ⟨x, y, rfl⟩
theorem three {α : Type} {l : List α} (h : l.length = 3) : ∃ x y z, l = [x, y, z] := match l, h with | [x, y, z], _ => ⟨x, y, z, rfl⟩
theorem len_ne {n m : Nat} (h : n ≠ m) : (!decide (V.int (n : Int) = V.int (m : Int))) = true := by
  rw [decide_eq_false (fun z => h (by have := V.int.inj z; omega))]; rfl
theorem len_eq {n m : Nat} (h : n = m) : (!decide (V.int (n : Int) = V.int (m : Int))) = false := by
  rw [h, decide_eq_true rfl]; rfl
def SqX (K : PySem.W.Frag) (H : Hp) (a : Addr) (xs : List V) : Prop := SqL K H a xs ∨ SqT K H a xs
theorem SqX.keep {K : PySem.W.Frag} {H H' : Hp} {a : Addr} {xs : List V} (q : SqX K H a xs) (s : Same H H') : SqX K H' a xs := q.elim (fun h => .inl (s.seq h)) fun h => .inr (s.sqT h)
theorem take_more {α : Type} {l : List α} {i : Nat} {x : α} (h : l[i]? = some x) : l.take (i + 1) = l.take i ++ [x] := by
  rw [List.take_add_one, h]; rfl
theorem DpAll.snoc {K : PySem.W.Frag} {H : Hp} : ∀ {vs : List V} {ds : List PyData} {v : V} {d : PyData}, DpAll K H vs ds → Dp K H v d → DpAll K H (vs ++ [v]) (ds ++ [d])
  | _, _, _, _, .nil, h => .cons h .nil
  | _, _, _, _, .cons x t, h => .cons x (DpAll.snoc t h)
theorem dp_at {K : PySem.W.Frag} {H : Hp} {xs : List V} {ds : List PyData} {i : Nat} {x : V} (dp : DpAll K H xs ds) (h : xs[i]? = some x) : ∃ d, ds[i]? = some d ∧ Dp K H x d := by
  have hlt : i < ds.length := by rw [← dp.length]; exact (List.getElem?_eq_some_iff.mp h).1
  obtain ⟨v, h1, h2⟩ := dp.get (i := i) (List.getElem?_eq_getElem hlt)
  rw [h] at h1
  cases h1
  exact ⟨_, List.getElem?_eq_getElem hlt, h2⟩
theorem all_map {α : Type} (f : α → Bool) (l : List α) : (l.map f).all id = l.all f := by induction l <;> simp_all
theorem any_map {α : Type} (f : α → Bool) (l : List α) : (l.map f).any id = l.any f := by induction l <;> simp_all
open PySem.RingX
def Rz (C : Addr) (f : Str) (v : V) (H : Hp) (E : XK) : Prop := ∀ H' dd, Same H H' → H' dd = none → E (.ref C) (some dd) (upd H' dd (.xd (xdl [f] [v])))
theorem Rz.keep {C : Addr} {f : Str} {v : V} {H H1 : Hp} {E : XK} (x : Rz C f v H E) (s : Same H H1) : Rz C f v H1 E := fun H' dd s1 n => x H' dd (s.trans s1) n
end K40

/-! ## The forms of lines, as plain functions -/
namespace Fm
open PySem PySem.Spec PyProof.Rows L2
abbrev D := PyData
def PL : List (Str × List Str) := [("S", ["at", "hole", "low", "top"]), ("R", ["at", "hole", "low", "top", "out"]), ("H", ["hole", "low", "top", "out"]), ("V", ["at", "hole", "low", "top", "first", "none"]), ("N", ["at", "hole", "low", "top", "out", "first", "none"]), ("X", ["at", "hole", "low", "top", "first", "home", "hand"]), ("Q", ["empty", "stone", "item", "key"]), ("C", ["<", "<="])]
def WR : List (Str × Str) := [("copy", "S gets S"), ("lay", "S gets hand"), ("lift", "hand gets S"), ("swap", "swap hand S"), ("empty", "empty S"), ("stone", "stone S")]
def OL : List (Str × Str) := [("set", "R = V"), ("next", "R = next S"), ("quit", "quit")]
def LL : List (Str × Str) := [("go", "go"), ("keep", "keep H"), ("stop", "stop"), ("quit", "quit")]
def PR : List (Str × Str) := [("row", "S is Q"), ("same", "N is N"), ("numbers", "X C X"), ("distances", "from X C from X"), ("steps", "steps < K")]
def placeM (m : Str) : Option (List Str) := PL.lookup m
def nOf (w : Str) : Int := (PySem.intText? w).getD 0
def countM (w : Str) : Bool := if (!Txt.isdigit w || (Txt.startswith w "0" || decide (2 < w.length))) = true then false else decide (nOf w ≤ 60)
def fitsM (m w : Str) : Bool := if m = "K" then countM w else match placeM m with | some ws => inV (.str w) (ws.map .str) | none => decide (w = m)
def openM (m : Str) : Bool := decide (m = "K") || (placeM m).isSome
def filledM (form : Str) (ws : List Str) : Option (List Str) :=
  if (Txt.split form " ").length = ws.length then
    (if ((Txt.split form " ").zip ws).all (fun p => fitsM p.1 p.2) = true then some ((((Txt.split form " ").zip ws).filter fun p => openM p.1).map (·.2)) else none)
  else none
def firstM : List (Str × Str) → List Str → Option (Str × List Str)
  | [], _ => none
  | p :: r, ws => match filledM p.2 ws with | some x => some (p.1, x) | none => firstM r ws
structure Part where
  (wanted : Bool) (question : Str) (words : List Str)
  deriving DecidableEq
def threeQ (q : Str) : Bool := inV (.str q) [.str "same", .str "numbers", .str "distances"]
def partM (ws : List Str) : Option Part :=
  let wanted := !decide (ws.take 1 = [("not" : Str)])
  match firstM PR (if wanted = true then ws else ws.drop 1) with
  | none => none
  | some p => if (threeQ p.1 && decide (p.2.head? = p.2.getLast?)) = true then none else some ⟨wanted, p.1, p.2⟩
def andStep (ps : List (List Str)) (w : Str) : List (List Str) := if w = "and" then ps ++ [[]] else ps.dropLast ++ [ps.getLast?.getD [] ++ [w]]
def splitAnd (ws : List Str) : List (List Str) := ws.foldl andStep [[]]
def testM (ws : List Str) : Option (List Part) := let ps := (splitAnd ws).map partM; if ps.all (·.isSome) = true then some (ps.filterMap id) else none
structure LineM where
  form : Str
  words : List Str
  test : List Part
  loop : Nat
  opener : Nat
  turn : Nat
  ending : Nat
  thn : Nat
  oth : Nat
  deriving DecidableEq
def mkLine (f : Str) (w : List Str) (t : List Part) : LineM := ⟨f, w, t, 0, 0, 0, 0, 0, 0⟩
def lineM (text : Str) (inLoop : Bool) : Option LineM :=
  let ws := Txt.split text " "
  let h := ws.headD ""
  if h = "if" ∨ (h = "walk" ∧ inLoop = false) then (testM (ws.drop 1)).map fun t => mkLine h [] t
  else (firstM (WR ++ if inLoop = true then LL else OL) ws).map fun p => mkLine p.1 p.2 []
/-! data -/
def strsD (ws : List Str) : D := .tuple (ws.map .str)
def partD (p : Part) : D := .tuple [.bool p.wanted, .str p.question, strsD p.words]
def testD (ps : List Part) : D := .tuple (ps.map partD)
def formsD (fs : List (Str × Str)) : D := .tuple (fs.map fun p => .tuple [.str p.1, .str p.2])
def foundD : Option (Str × List Str) → D | none => .none | some p => .tuple [.str p.1, strsD p.2]
def filledD : Option (List Str) → D | none => .none | some x => strsD x
def oPartD : Option Part → D | none => .none | some p => partD p
def oTestD : Option (List Part) → D | none => .none | some p => testD p
/-! marks of the written forms, once -/
theorem split_one : Txt.split "quit" " " = [("quit" : Str)] := by decide +kernel
theorem test1 : lineM "low = none" false = some (mkLine "set" ["low", "none"] []) := by decide +kernel
theorem test2 : lineM "if low is none and not steps < 37" false = some (mkLine "if" [] [⟨true, "same", ["low", "none"]⟩, ⟨false, "steps", ["37"]⟩]) := by decide +kernel
theorem test3 : lineM "walk at is item" false = some (mkLine "walk" [] [⟨true, "row", ["at", "item"]⟩]) := by decide +kernel
theorem test4 : lineM "Low = none" false = none := by decide +kernel
end Fm

namespace K40
open PySem PySem.Spec PyProof.Rows L2 Fm PySem.RingX
/-- built-in names of the top -/
structure GB (mg : Str → Option Value) : Prop where
  isi : mg "isinstance" = none
  int : mg "int" = none
  str : mg "str" = none
  tup : mg "tuple" = none
  lst : mg "list" = none
  zip : mg "zip" = none
  len : mg "len" = none
  all : mg "all" = none
  any : mg "any" = none
  range : mg "range" = none
  enum : mg "enumerate" = none
  min : mg "min" = none
  set : mg "set" = none
structure TopF (K : PySem.W.Frag) (w : World) (mg : Str → Option Value) : Prop where
  places : ∃ aP, mg "PLACES" = some (.ref aP) ∧ ∀ m : Str, ∃ r, KHas K w aP m r ∧ r.isSome = (placeM m).isSome ∧ ∀ ws, placeM m = some ws → ∃ b, r = some (.ref b) ∧ ∀ H, SqT K H b (ws.map V.str)
  steps : ∃ t, mg "MOST_STEPS" = some (.int 60 t)
  writes : ∃ a, mg "WRITES" = some (.ref a) ∧ ∀ H, Dp K H (.ref a) (formsD WR)
  outer : ∃ a, mg "OUTER_LINES" = some (.ref a) ∧ ∀ H, Dp K H (.ref a) (formsD OL)
  loop : ∃ a, mg "LOOP_LINES" = some (.ref a) ∧ ∀ H, Dp K H (.ref a) (formsD LL)
  parts : ∃ a, mg "PARTS" = some (.ref a) ∧ ∀ H, Dp K H (.ref a) (formsD PR)
/-- a text of ascii signs, not too long -/
def Asc (x : Str) : Prop := (∀ c ∈ x.cps.toList, c < 128) ∧ x.length ≤ 100000
theorem dig_two {a : Nat} (h : Unicode.isDigit a = true) (l : a < 128) : 48 ≤ a ∧ a ≤ 57 := by
  have : ∀ a : Fin 128, Unicode.isDigit a.val = true → 48 ≤ a.val ∧ a.val ≤ 57 := by decide +kernel
  exact this ⟨a, l⟩ h
theorem num_one {a : Nat} (h1 : 48 ≤ a) (h2 : a ≤ 57) : (PySem.intText? ⟨#[a]⟩).isSome = true := by
  have : ∀ a : Fin 10, (PySem.intText? ⟨#[a.val + 48]⟩).isSome = true := by decide +kernel
  have := this ⟨a - 48, by omega⟩
  rw [show (⟨a - 48, by omega⟩ : Fin 10).val + 48 = a by show a - 48 + 48 = a; omega] at this
  exact this
theorem num_two {a b : Nat} (h1 : 48 ≤ a) (h2 : a ≤ 57) (h3 : 48 ≤ b) (h4 : b ≤ 57) : (PySem.intText? ⟨#[a, b]⟩).isSome = true := by
  have : ∀ a b : Fin 10, (PySem.intText? ⟨#[a.val + 48, b.val + 48]⟩).isSome = true := by decide +kernel
  have := this ⟨a - 48, by omega⟩ ⟨b - 48, by omega⟩
  rw [show (⟨a - 48, by omega⟩ : Fin 10).val + 48 = a by show a - 48 + 48 = a; omega, show (⟨b - 48, by omega⟩ : Fin 10).val + 48 = b by show b - 48 + 48 = b; omega] at this
  exact this
theorem num_of {x : Str} (h : Asc x) (hd : Txt.isdigit x = true) (hl : ¬ 2 < x.length) : PySem.intText? x = some (nOf x) ∧ x.length ≤ 640 := by
  have e : (PySem.intText? x).isSome = true := by
    obtain ⟨⟨l⟩⟩ := x
    unfold Txt.isdigit at hd
    obtain ⟨h0, h1⟩ := Bool.and_eq_true_iff.mp hd
    have h0 : 0 < l.length := of_decide_eq_true h0
    have hl : ¬ 2 < l.length := hl
    have ha : ∀ c ∈ l, c < 128 := h.1
    have hb : ∀ c ∈ l, Unicode.isDigit c = true := by
      have h1 : (l.toArray).all Unicode.isDigit = true := h1
      rw [List.all_toArray] at h1
      exact List.all_eq_true.mp h1
    match l, h0, hl, ha, hb with
    | [a], _, _, ha, hb =>
      obtain ⟨p, q⟩ := dig_two (hb a (by simp)) (ha a (by simp))
      exact num_one p q
    | [a, b], _, _, ha, hb =>
      obtain ⟨p, q⟩ := dig_two (hb a (by simp)) (ha a (by simp))
      obtain ⟨p', q'⟩ := dig_two (hb b (by simp)) (ha b (by simp))
      exact num_two p q p' q'
    | _ :: _ :: _ :: _, _, hl, _, _ => exact absurd (by simp) hl
  refine ⟨?_, by omega⟩
  obtain ⟨n, hn⟩ := Option.isSome_iff_exists.mp e
  unfold nOf
  rw [hn]; rfl
section
variable {P : Program} {w : World} {K : PySem.W.Frag} {mg : Str → Option Value} {base : Heap}
def spCount : Sp := fun vs H Q _ => ∃ x : Str, vs = [.str x] ∧ Asc x ∧ Q (.bl (countM x)) H
theorem scCount : FnScope ["word"] ["word"] (defScope s_is_count) := ⟨rfl, rfl, rfl, by decide +kernel, rfl, by decide +kernel, by decide +kernel⟩
theorem ok_count (R : Raw K mg "is_count" s_is_count ["word"]) (T : GB mg) (F0 : TopF K w mg) : Def P w K mg base CX0 "is_count" 1 ["word"] spCount := by
  obtain ⟨tS, gS⟩ := F0.steps
  refine R.def fun f fd F => F.ok scCount (fun vs H Q E h => ?_) (fun cdv A outer s H vs Q E hr h => ?_)
  · obtain ⟨x, rfl, _⟩ := h
    rfl
  · obtain ⟨x, rfl, ha, k⟩ := h
    refine ⟨_, pss_cons (ps_if (PW.pt (pw_or (pt_not (pt_val (pe_m0 PySem.F.slot_str_isdigit PySem.F.type_str_isdigit mt_isdigit (pv 0)))) (pw_or (pt_val (pe_m1 PySem.F.slot_str_startswith PySem.F.type_str_startswith mt_startswith (pv 0) pe_str)) (pw_or1 (pt_cmpR op_gt (pe_callB call_len_str (by rfl) T.len PySem.boot_len (pa_cons (pv 0) pa_nil)) pe_int (nomark _)))))) (pss_one (ps_ret pe_bl)) pss_nil)
      (pss_one (ps_ret (pe_cmpR op_le (pe_callTy call_int_str (by rfl) T.int (by decide +kernel) (pa_cons (pv 0) pa_nil)) (pe_glob (v := .int 60) (by rfl) gS ⟨_, rfl⟩) (nomark _)))), ?_⟩
    refine ⟨_, rfl, ⟨_, rfl⟩, x, rfl, rfl, trivial, _, rfl, ?_⟩
    unfold countM at k
    cases hd : Txt.isdigit x with
    | false =>
      rw [hd, if_pos (by rfl)] at k
      exact iteT (iteT k)
    | true =>
      rw [hd] at k
      refine iteF ⟨_, rfl, ⟨_, rfl⟩, x, "0", rfl, rfl, _, rfl, ?_⟩
      cases hs : Txt.startswith x "0" with
      | true =>
        rw [hs, if_pos (by rfl)] at k
        exact iteT (iteT k)
      | false =>
        rw [hs] at k
        refine iteF ⟨_, rfl, x, rfl, by have := ha.2; rw [sizeLine_eq]; omega, _, _, rfl, rfl, _, rfl, ?_⟩
        by_cases hl : 2 < x.length
        · refine ifT (decide_eq_true (by show (2 : Int) < (x.length : Nat); omega)) ?_
          rw [decide_eq_true hl, if_pos (by rfl)] at k
          exact k
        · refine ifF (decide_eq_false (by show ¬ (2 : Int) < (x.length : Nat); omega)) ?_
          rw [decide_eq_false hl, if_neg (by intro z; cases z)] at k
          obtain ⟨n1, n2⟩ := num_of ha hd hl
          exact ⟨_, rfl, x, _, rfl, n1, n2, _, _, rfl, rfl, k⟩
end
end K40

namespace K40
open PySem PySem.Spec PyProof.Rows L2 Fm PySem.RingX
section
variable {P : Program} {w : World} {K : PySem.W.Frag} {mg : Str → Option Value} {base : Heap}
def spFits : Sp := fun vs H Q _ => ∃ m x : Str, vs = [.str m, .str x] ∧ Asc x ∧ Q (.bl (fitsM m x)) H
theorem scFits : FnScope ["mark", "word"] ["mark", "word"] (defScope s_fits) := ⟨rfl, rfl, rfl, by decide +kernel, rfl, by decide +kernel, by decide +kernel⟩
theorem ok_fits (R : Raw K mg "fits" s_fits ["mark", "word"]) (F0 : TopF K w mg) (DC : Def P w K mg base CX0 "is_count" 1 ["word"] spCount) : Def P w K mg base CX0 "fits" 2 ["mark", "word"] spFits := by
  obtain ⟨aP, gP, hP⟩ := F0.places
  obtain ⟨fC, dC, GC, gC, kC, bC⟩ := DC
  refine R.def fun f fd F => F.ok scFits (fun vs H Q E h => ?_) (fun cdv A outer s H vs Q E hr h => ?_)
  · obtain ⟨m, x, rfl, _⟩ := h
    rfl
  · obtain ⟨m, x, rfl, ha, k⟩ := h
    refine ⟨_, pss_cons (ps_if (pt_cmpR op_eq (pv 0) pe_str (nomark _)) (pss_one (ps_ret (pe_call GC hr (by rfl) gC kC bC .nil pass0 (pa_cons (pv 1) pa_nil)))) pss_nil)
      (pss_cons (ps_if (pt_cmpR op_inKD (pv 0) (pe_glob (v := .ref aP) (by rfl) gP rfl) (by rfl)) (pss_one (ps_ret (pe_cmpR op_in_seq (pv 1) (pe_ix ix_kdict (pe_glob (v := .ref aP) (by rfl) gP rfl) (pv 0) (fun _ _ => rfl)) (by rfl)))) pss_nil)
      (pss_one (ps_ret (pe_cmpR op_eq (pv 1) (pv 0) (nomark _))))), ?_⟩
    refine ⟨_, rfl, rfl, _, rfl, ?_⟩
    unfold fitsM at k
    by_cases c : m = "K"
    · refine ifT (decide_eq_true (congrArg V.str c)) ?_
      rw [if_pos c] at k
      exact ⟨_, rfl, x, rfl, ha, k⟩
    · refine ifF (decide_eq_false fun z => c (V.str.inj z)) ?_
      rw [if_neg c] at k
      obtain ⟨r, hk, e, hs⟩ := hP m
      refine ⟨_, rfl, aP, m, r, rfl, rfl, hk, _, rfl, ?_⟩
      cases hp : placeM m with
      | none =>
        rw [hp] at k e
        refine ifF e ?_
        exact ⟨_, rfl, _, rfl, rfl, by rw [show decide (V.str x = V.str m) = decide (x = m) from decide_eq_decide.mpr ⟨V.str.inj, congrArg _⟩]; exact k⟩
      | some ws =>
        rw [hp] at k e
        refine ifT e ?_
        obtain ⟨b, rfl, sq⟩ := hs ws hp
        exact ⟨_, rfl, _, rfl, aP, m, .ref b, rfl, rfl, hk.dct, b, _, rfl, .inr (sq H), rfl, by rw [List.all_map]; exact List.all_eq_true.mpr fun _ _ => rfl, k⟩
theorem dp_snds {K : PySem.W.Frag} (l : List (Str × Str)) (H : Hp) : DpAll K H (l.map fun q => V.str q.2) ((l.map (·.2)).map PyData.str) := by
  induction l with
  | nil => exact .nil
  | cons x r ih => exact .cons (.str _) ih
def spFilled (K : PySem.W.Frag) : Sp := fun vs H Q _ => ∃ (form : Str) (a : Addr) (ws : List Str), vs = [.str form, .ref a] ∧ SqL K H a (ws.map V.str) ∧ (∀ x ∈ ws, Asc x) ∧ ws.length ≤ 100000 ∧ form.length ≤ 100 ∧ ∀ v H', Same H H' → Dp K H' v (filledD (filledM form ws)) → Q v H'
theorem scFilled : FnScope ["form", "words", "marks", "pairs", "mark", "word"] ["form", "words"] (defScope s_filled) := ⟨rfl, rfl, rfl, by decide +kernel, rfl, by decide +kernel, by decide +kernel⟩
theorem ok_filled (R : Raw K mg "filled" s_filled ["form", "words"]) (T : GB mg) (F0 : TopF K w mg) (DF : Def P w K mg base CX0 "fits" 2 ["mark", "word"] spFits) : Def P w K mg base CX0 "filled" 3 ["form", "words"] (spFilled K) := by
  obtain ⟨aP, gP, hP⟩ := F0.places
  obtain ⟨fF, dF, GF, gF, kF, bF⟩ := DF
  refine R.def fun f fd F => F.ok scFilled (fun vs H Q E h => ?_) (fun cdv A outer s H vs Q E hr h => ?_)
  · obtain ⟨form, a, ws, rfl, _⟩ := h
    rfl
  · obtain ⟨form, a, ws, rfl, sq, ha, hl, hf, k⟩ := h
    refine ⟨_, pss_cons (ps_set (i := 2) scFilled.nd rfl (Or.inl rfl) (pe_split (pv 0) pe_str))
      (pss_cons (ps_if (pt_cmpR op_ne (pe_callB call_len_seq (by rfl) T.len PySem.boot_len (pa_cons (pv 2) pa_nil)) (pe_callB call_len_seq (by rfl) T.len PySem.boot_len (pa_cons (pv 1) pa_nil)) (nomark _)) (pss_one (ps_ret pe_non)) pss_nil)
      (pss_cons (ps_set (i := 3) scFilled.nd rfl (Or.inl rfl) (pe_listZip (by rfl) T.lst (by rfl) T.zip (pa_cons (pv 2) (pa_cons (pv 1) pa_nil))))
      (pss_cons (ps_if (pt_not (pt_val (pe_callB (cr_all rfl) (by rfl) T.all (by decide +kernel) (pa_cons (pe_lc (own := [("mark", 4), ("word", 5)]) (g := gTup K 2 (gCons (gName 4) (gCons (gName 5) gNil))) (tt := tYes) (te := tCall spFits [] E (tCons (tVar 4) (tCons (tVar 5) tNil))) rfl scFilled.nd (pi_list (pv 3)) (blkOk_by (own := [("mark", 4), ("word", 5)]) (N := ["form", "words", "marks", "pairs", "mark", "word"]) (sc := defScope s_filled) (by decide +kernel))
          (fun _ _ _ _ _ => pg_tup rfl (pgs_cons (pg_name (i := 4) scFilled.nd rfl (Or.inl rfl)) (pgs_cons (pg_name (i := 5) scFilled.nd rfl (Or.inl rfl)) pgs_nil))) (fun _ _ _ _ _ => pts_nil) (fun _ _ _ _ _ => pe_call GF hr (by rfl) gF kF bF .nil pass0 (pa_cons (pv 4) (pa_cons (pv 5) pa_nil)))) pa_nil)))) (pss_one (ps_ret pe_non)) pss_nil)
      (pss_one (ps_ret (pe_tupleOf (by rfl) T.tup (pe_lc (own := [("mark", 4), ("word", 5)]) (g := gTup K 2 (gCons (gName 4) (gCons (gName 5) gNil))) rfl scFilled.nd (pi_list (pv 3)) (blkOk_by (own := [("mark", 4), ("word", 5)]) (N := ["form", "words", "marks", "pairs", "mark", "word"]) (sc := defScope s_filled) (by decide +kernel))
          (fun _ _ _ _ _ => pg_tup rfl (pgs_cons (pg_name (i := 4) scFilled.nd rfl (Or.inl rfl)) (pgs_cons (pg_name (i := 5) scFilled.nd rfl (Or.inl rfl)) pgs_nil)))
          (fun _ _ _ _ _ => pts_one (PW.pt (pw_or (pt_cmpR (show OpR _ _ (rEq) from op_eq) (pv 4) pe_str (nomark _)) (pw_or1 (pt_cmpR (show OpR _ _ (rInKD K w) from op_inKD) (pv 4) (pe_glob (v := .ref aP) (by rfl) gP rfl) (by rfl)))))) (fun _ _ _ _ _ => pv 5)))))))), ?_⟩
    refine ⟨_, rfl, ⟨_, rfl⟩, form, " ", rfl, rfl, by decide, by rw [sizeLine_eq]; omega, fun p1 hp1 => ?_⟩
    have s1 : Same H (upd H p1 (.lst ((Txt.split form " ").map V.str))) := same_upd hp1
    have sq1 := s1.seq sq
    refine ⟨_, rfl, p1, _, rfl, .inl (SqL.of upd_same), _, rfl, a, _, rfl, .inl sq1, rfl, _, rfl, ?_⟩
    rw [List.length_map, List.length_map]
    generalize hms : Txt.split form " " = ms at *
    unfold filledM at k
    rw [hms] at k
    by_cases c : ms.length = ws.length
    · refine ifF (len_eq c) ?_
      rw [if_pos c] at k
      refine ⟨_, rfl, _, rfl, p1, a, _, _, rfl, SqL.of upd_same, sq1, by rw [List.length_map, List.length_map]; exact c, fun p Ts H2 hp s2 hl2 ht hT => ?_⟩
      have s02 := s1.trans s2
      rw [List.length_map] at ht
      have zl : (ms.zip ws).length = Ts.length := by rw [List.length_zip, ht]; omega
      have turn : ∀ (i : Nat) (x : V) (H' : Hp), (Ts.map V.ref)[i]? = some x → Same H2 H' → ∃ (t : Addr) (m w : Str), (ms.zip ws)[i]? = some (m, w) ∧ x = .ref t ∧ SqT K H' t [.str m, .str w] ∧ Asc w := fun i x H' hx s' => by
        rw [List.getElem?_map] at hx
        obtain ⟨t, ht', rfl⟩ := Option.map_eq_some_iff.mp hx
        have hi : i < Ts.length := (List.getElem?_eq_some_iff.mp ht').1
        have hm : i < ms.length := by omega
        have hw : i < ws.length := by omega
        obtain ⟨_, _, e⟩ := hT i t (.str ms[i]) (.str ws[i]) ht' (by rw [List.getElem?_map, List.getElem?_eq_getElem hm]; rfl) (by rw [List.getElem?_map, List.getElem?_eq_getElem hw]; rfl)
        refine ⟨t, ms[i], ws[i], ?_, rfl, SqT.of (s' _ _ e), ha _ (List.getElem_mem hw)⟩
        rw [List.getElem?_zip_eq_some]
        exact ⟨List.getElem?_eq_getElem hm, List.getElem?_eq_getElem hw⟩
      have small : (ms.zip ws).length ≤ 100000 := by rw [List.length_zip]; omega
      refine ⟨_, rfl, p, rfl, ⟨_, SqL.of hl2⟩, fun D hD => lc_list (K := K) (a := p) (xs := Ts.map V.ref) (fun i H' => Same H2 H' ∧ H' D = some (.lst (((ms.zip ws).take i).map fun q => V.bl (fitsM q.1 q.2)))) ⟨same_upd hD, upd_same⟩ (fun i H' _ h => SqL.of (h.1 _ _ hl2)) ?_ ?_⟩
      · rintro i x H3 hx ⟨s3, h3⟩
        obtain ⟨t, m, w, hz, rfl, sqt, hw⟩ := turn i x H3 hx s3
        refine ⟨t, _, rfl, sqt, rfl, _, _, rfl, _, _, rfl, rfl, rfl, _, rfl, _, rfl, m, w, rfl, hw, _, h3, ?_, fun y o hy => ?_, ?_⟩
        · rw [List.length_map, List.length_take, sizeLine_eq]; omega
        · rw [upd_ne (ne_of_none hy hD)]; exact s3 y o hy
        · rw [upd_same, take_more hz, List.map_append]; rfl
      · rintro H3 ⟨s3, h3⟩
        rw [List.length_map, ← zl, List.take_length] at h3
        refine ⟨D, (ms.zip ws).map fun q => fitsM q.1 q.2, rfl, ?_, ?_⟩
        · refine SqL.of (h3.trans ?_)
          rw [List.map_map]; rfl
        rw [all_map]
        have s03 := s02.trans s3
        cases hal : (ms.zip ws).all fun q => fitsM q.1 q.2 with
        | false =>
          rw [hal, if_neg (by decide)] at k
          exact ⟨_, rfl, iteT (k _ _ s03 .non)⟩
        | true =>
          rw [hal, if_pos (by rfl)] at k
          refine ⟨_, rfl, iteF ?_⟩
          refine ⟨_, rfl, p, rfl, ⟨_, SqL.of (s3 _ _ hl2)⟩, fun D2 hD2 => lc_list (K := K) (a := p) (xs := Ts.map V.ref) (fun i H' => Same H3 H' ∧ H' D2 = some (.lst ((((ms.zip ws).take i).filter fun q => openM q.1).map fun q => V.str q.2))) ⟨same_upd hD2, upd_same⟩ (fun i H' _ h => SqL.of (h.1 _ _ (s3 _ _ hl2))) ?_ ?_⟩
          · rintro i x H4 hx ⟨s4, h4⟩
            obtain ⟨t, m, w, hz, rfl, sqt, hw⟩ := turn i x H4 hx (s3.trans s4)
            have len4 : ((((ms.zip ws).take i).filter fun q => openM q.1).map fun q => V.str q.2).length < sizeLine := by
              have h1 := List.length_filter_le (fun q : Str × Str => openM q.1) ((ms.zip ws).take i)
              rw [List.length_take] at h1
              rw [List.length_map, sizeLine_eq]; omega
            have yes : openM m = true → Same H3 (upd H4 D2 (.lst (((((ms.zip ws).take i).filter fun q => openM q.1).map fun q => V.str q.2) ++ [V.str w]))) ∧ upd H4 D2 (.lst (((((ms.zip ws).take i).filter fun q => openM q.1).map fun q => V.str q.2) ++ [V.str w])) D2 = some (.lst ((((ms.zip ws).take (i + 1)).filter fun q => openM q.1).map fun q => V.str q.2)) := fun e => by
              refine ⟨fun y o hy => ?_, ?_⟩
              · rw [upd_ne (ne_of_none hy hD2)]; exact s4 y o hy
              · rw [upd_same, take_more hz, List.filter_append, List.filter_cons_of_pos (by exact e), List.map_append]; rfl
            refine ⟨t, _, rfl, sqt, rfl, _, _, rfl, _, _, rfl, rfl, rfl, _, rfl, rfl, _, rfl, ?_⟩
            by_cases c1 : m = "K"
            · refine ifT (decide_eq_true (congrArg V.str c1)) ?_
              refine iteT ⟨_, rfl, _, h4, len4, yes ?_⟩
              unfold openM
              rw [decide_eq_true c1]; rfl
            · refine ifF (decide_eq_false fun z => c1 (V.str.inj z)) ?_
              obtain ⟨r, hk, e, _⟩ := hP m
              refine ⟨_, rfl, aP, m, r, rfl, rfl, hk, _, rfl, ?_⟩
              rw [e]
              have eo : openM m = (placeM m).isSome := by unfold openM; rw [decide_eq_false c1]; rfl
              cases hpl : (placeM m).isSome with
              | true => exact iteT ⟨_, rfl, _, h4, len4, yes (eo.trans hpl)⟩
              | false =>
                refine iteF ⟨s4, ?_⟩
                rw [h4, take_more hz, List.filter_append, List.filter_cons_of_neg (by rw [eo.trans hpl]; decide)]
                simp
          · rintro H4 ⟨s4, h4⟩
            rw [List.length_map, ← zl, List.take_length] at h4
            refine .inl ⟨D2, _, rfl, SqL.of h4, fun q hq => ?_⟩
            refine k _ _ (s03.trans (s4.trans (same_upd hq))) ?_
            refine .tup (SqT.of upd_same) ?_
            exact dp_snds _ _
    · refine ifT (len_ne c) ?_
      rw [if_neg c] at k
      exact k _ _ s1 .non
end
end K40

namespace K40
open PySem PySem.Spec PyProof.Rows L2 Fm PySem.RingX
theorem dp_strs {K : PySem.W.Frag} {H : Hp} : ∀ ws : List Str, DpAll K H (ws.map V.str) (ws.map PyData.str)
  | [] => .nil
  | n :: ns => .cons (.str n) (dp_strs ns)
theorem asc_ok {x : Str} (h : Asc x) : PyData.strOk x = true := by
  unfold PyData.strOk
  rw [← Array.all_toList]
  exact List.all_eq_true.mpr fun c hc => decide_eq_true (by have := h.1 c hc; omega)
theorem strs_shape : ∀ {ns : List Str}, (∀ x ∈ ns, Asc x) → PyData.canLayAll0 (ns.map PyData.str) = true ∧ PyData.depthAll (ns.map PyData.str) ≤ 1
  | [], _ => by simp [PyData.canLayAll0, PyData.depthAll]
  | n :: ns, h => by
    obtain ⟨h1, h2⟩ := strs_shape fun x hx => h x (List.mem_cons_of_mem _ hx)
    refine ⟨by simp [PyData.canLayAll0, PyData.canLay0, h1, asc_ok (h n List.mem_cons_self)], ?_⟩
    rw [List.map_cons]
    unfold PyData.depthAll
    have : PyData.depth (PyData.str n) ≤ 1 := by simp [PyData.depth]
    omega
theorem strsL_shaped {ns : List Str} (h : ∀ x ∈ ns, Asc x) : SeqAt.shaped (.list (ns.map PyData.str)) = true := by
  obtain ⟨h1, h2⟩ := strs_shape h
  unfold SeqAt.shaped
  simp only [PyData.canLay0, PyData.depth, h1, Bool.true_and]
  exact decide_eq_true (by omega)
theorem eqvAll_strs : ∀ (ns ms : List Str), PyData.eqvAll (ns.map PyData.str) (ms.map PyData.str) = decide (ns = ms)
  | [], [] => by simp [PyData.eqvAll]
  | [], _ :: _ => by simp [PyData.eqvAll]
  | _ :: _, [] => by simp [PyData.eqvAll]
  | n :: ns, m :: ms => by
    simp only [List.map_cons, PyData.eqvAll, PyData.eqv, eqvAll_strs ns ms]
    by_cases c : n = m <;> simp [c]
theorem dp_str {K : PySem.W.Frag} {H : Hp} {v : V} {x : Str} (h : Dp K H v (.str x)) : v = .str x := by cases h; rfl
theorem dp_strsT {K : PySem.W.Frag} {H : Hp} {v : V} {ws : List Str} (h : Dp K H v (strsD ws)) : ∃ a, v = .ref a ∧ SqT K H a (ws.map V.str) := by
  obtain ⟨a, vs, rfl, q, r⟩ := dp_tup h
  refine ⟨a, rfl, ?_⟩
  have : vs = ws.map V.str := by
    clear q h
    induction ws generalizing vs with
    | nil => cases r; rfl
    | cons w ws ih =>
      cases r with
      | cons h1 h2 => rw [dp_str h1, ih _ h2]; rfl
  rw [← this]; exact q
section
variable {P : Program} {w : World} {K : PySem.W.Frag} {mg : Str → Option Value} {base : Heap}
def spFirst (K : PySem.W.Frag) : Sp := fun vs H Q _ => ∃ (vf : V) (fs : List (Str × Str)) (a : Addr) (ws : List Str), vs = [vf, .ref a] ∧ Dp K H vf (formsD fs) ∧ (∀ p ∈ fs, p.2.length ≤ 100) ∧ SqL K H a (ws.map V.str) ∧ (∀ x ∈ ws, Asc x) ∧ ws.length ≤ 100000 ∧ ∀ v H', Same H H' → Dp K H' v (foundD (firstM fs ws)) → Q v H'
theorem scFirst : FnScope ["forms", "words", "name", "form", "found"] ["forms", "words"] (defScope s_first_filled) := ⟨rfl, rfl, rfl, by decide +kernel, rfl, by decide +kernel, by decide +kernel⟩
theorem firstM_at {fs : List (Str × Str)} {ws : List Str} {i : Nat} {p : Str × Str} (h : fs[i]? = some p) : firstM (fs.drop i) ws = match filledM p.2 ws with | some x => some (p.1, x) | none => firstM (fs.drop (i + 1)) ws := by
  obtain ⟨hi, e⟩ := List.getElem?_eq_some_iff.mp h
  rw [List.drop_eq_getElem_cons hi, e]
  rfl
theorem ok_first (R : Raw K mg "first_filled" s_first_filled ["forms", "words"]) (DF : Def P w K mg base CX0 "filled" 3 ["form", "words"] (spFilled K)) : Def P w K mg base CX0 "first_filled" 4 ["forms", "words"] (spFirst K) := by
  obtain ⟨fF, dF, GF, gF, kF, bF⟩ := DF
  refine R.def fun f fd F => F.ok scFirst (fun vs H Q E h => ?_) (fun cdv A outer s H vs Q E hr h => ?_)
  · obtain ⟨vf, fs, a, ws, rfl, _⟩ := h
    rfl
  · obtain ⟨vf, fs, a, ws, rfl, hd, hf, sq, ha, hl, k⟩ := h
    obtain ⟨af, xs, rfl, sf, dp⟩ := dp_tup hd
    refine ⟨_, pss_cons (ps_for PassesOwn.never rfl (pi_tup (pv 0)) (pg_tup rfl (pgs_cons (pg_name (i := 2) scFirst.nd rfl (Or.inl rfl)) (pgs_cons (pg_name (i := 3) scFirst.nd rfl (Or.inl rfl)) pgs_nil)))
        (pss_cons (ps_set (i := 4) scFirst.nd rfl (Or.inl rfl) (pe_call GF hr (by rfl) gF kF bF .nil pass0 (pa_cons (pv 3) (pa_cons (pv 1) pa_nil))))
        (pss_one (ps_if (pt_cmpR op_notN (pv 4) pe_non (nomark _)) (pss_one (ps_ret (pe_tup (pa_cons (pv 2) (pa_cons (pv 4) pa_nil))))) pss_nil))))
      (pss_one (ps_ret pe_non)), ?_⟩
    have xl := dp.length
    rw [List.length_map] at xl
    refine ⟨_, rfl, af, rfl, ⟨_, sf⟩, for_tup (K := K) (a := af) (xs := xs) (fun i σ H' => (∃ x2 x3 x4, σ = [some (.ref af), some (.ref a), x2, x3, x4]) ∧ Same H H' ∧ firstM fs ws = firstM (fs.drop i) ws) ⟨⟨_, _, _, rfl⟩, Same.refl _, rfl⟩ (fun i σ H' _ h => h.2.1.sqT sf) ?_ ?_⟩
    · rintro i x σ H1 hx ⟨⟨x2, x3, x4, rfl⟩, s1, e1⟩
      obtain ⟨d, hdi, dx⟩ := dp_at dp hx
      rw [List.getElem?_map] at hdi
      obtain ⟨p, hp, rfl⟩ := Option.map_eq_some_iff.mp hdi
      obtain ⟨t, ts, rfl, sqt, dt⟩ := dp_tup dx
      cases dt with
      | cons h1 dt => cases dt with
        | cons h2 dt =>
          cases dt
          cases dp_str h1
          cases dp_str h2
          have hfp := firstM_at (ws := ws) hp
          refine ⟨t, _, rfl, s1.sqT sqt, rfl, _, _, rfl, _, _, rfl, rfl, _, rfl, _, rfl, p.2, a, ws, rfl, s1.seq sq, ha, hl, hf p (List.mem_of_getElem? hp), fun v H2 s2 d2 => ?_⟩
          refine ⟨_, rfl, rfl, _, rfl, ?_⟩
          cases hfm : filledM p.2 ws with
          | none =>
            rw [hfm] at d2 hfp
            cases d2
            exact ifF (by rfl) ⟨⟨_, _, _, rfl⟩, s1.trans s2, e1.trans hfp⟩
          | some y =>
            rw [hfm] at d2 hfp
            obtain ⟨ay, rfl, _⟩ := dp_strsT d2
            refine ifT (by rfl) ⟨_, rfl, _, rfl, (by show 2 ≤ sizeLine; decide), fun q hq => ?_⟩
            refine k _ _ ((s1.trans s2).trans (same_upd hq)) ?_
            rw [e1.trans hfp]
            exact .tup (SqT.of upd_same) (.cons (.str _) (.cons (d2.keep (same_upd hq)) .nil))
    · rintro σ H1 ⟨⟨x2, x3, x4, rfl⟩, s1, e1⟩
      rw [xl, List.drop_length] at e1
      refine k _ _ s1 ?_
      rw [e1]
      exact .non
end
end K40

namespace K40
open PySem PySem.Spec PyProof.Rows L2 Fm PySem.RingX
theorem cut_one {xs : List V} : cutV xs none (some (1 : Int)) = xs.take 1 := by
  cases xs with
  | nil => rfl
  | cons x r =>
    show (List.drop (HT.sIx (r.length + 1) 0 none) (x :: r)).take (HT.sIx (r.length + 1) (r.length + 1) (some 1) - HT.sIx (r.length + 1) 0 none) = _
    have e0 : HT.sIx (r.length + 1) 0 none = 0 := rfl
    have e1 : HT.sIx (r.length + 1) (r.length + 1) (some 1) = 1 := by
      unfold HT.sIx
      simp
    rw [e0, e1]; rfl
theorem cut_from {xs : List V} : cutV xs (some (1 : Int)) none = xs.drop 1 := by
  cases xs with
  | nil => rfl
  | cons x r =>
    show (List.drop (HT.sIx (r.length + 1) 0 (some 1)) (x :: r)).take (HT.sIx (r.length + 1) (r.length + 1) none - HT.sIx (r.length + 1) 0 (some 1)) = _
    have e0 : HT.sIx (r.length + 1) (r.length + 1) none = r.length + 1 := rfl
    have e1 : HT.sIx (r.length + 1) 0 (some 1) = 1 := by
      unfold HT.sIx
      simp
    rw [e0, e1]
    show r.take (r.length + 1 - 1) = r
    rw [Nat.add_sub_cancel, List.take_length]
theorem zip_open : ∀ (ms ws : List Str), ms.length = ws.length → (((ms.zip ws).filter fun p => openM p.1).map (·.2)).length = (ms.filter openM).length
  | [], [], _ => rfl
  | [], _ :: _, h => by cases h
  | _ :: _, [], h => by cases h
  | m :: ms, w :: ws, h => by
    have ih := zip_open ms ws (by simpa using h)
    rw [List.zip_cons_cons]
    cases c : openM m with
    | true => rw [List.filter_cons_of_pos (by exact c), List.filter_cons_of_pos c, List.map_cons, List.length_cons, List.length_cons, ih]
    | false => rw [List.filter_cons_of_neg (by rw [c]; decide), List.filter_cons_of_neg (by rw [c]; decide), ih]
theorem filled_len {form : Str} {ws x : List Str} (h : filledM form ws = some x) : x.length = ((Txt.split form " ").filter openM).length := by
  unfold filledM at h
  by_cases c : (Txt.split form " ").length = ws.length
  · rw [if_pos c] at h
    split at h
    · cases h
      exact zip_open _ _ c
    · cases h
  · rw [if_neg c] at h; cases h
theorem first_len {fs : List (Str × Str)} {ws : List Str} {p : Str × List Str} (h : firstM fs ws = some p) : ∃ form, (p.1, form) ∈ fs ∧ filledM form ws = some p.2 ∧ p.2.length = ((Txt.split form " ").filter openM).length := by
  induction fs with
  | nil => cases h
  | cons q r ih =>
    unfold firstM at h
    cases e : filledM q.2 ws with
    | none =>
      rw [e] at h
      obtain ⟨form, h1, h2⟩ := ih h
      exact ⟨form, List.mem_cons_of_mem _ h1, h2⟩
    | some x =>
      rw [e] at h
      cases h
      exact ⟨q.2, List.mem_cons_self, e, filled_len e⟩
theorem three_two : ∀ p ∈ PR, threeQ p.1 = true → 0 < ((Txt.split p.2 " ").filter openM).length := by decide +kernel
theorem forms_short : (∀ p ∈ PR, p.2.length ≤ 100) ∧ (∀ p ∈ WR ++ OL, p.2.length ≤ 100) ∧ ∀ p ∈ WR ++ LL, p.2.length ≤ 100 := by decide +kernel
theorem ends_eq {l : List Str} (h : 0 < l.length) : ∃ a b, l[0]? = some a ∧ l[l.length - 1]? = some b ∧ decide (l.head? = l.getLast?) = decide (a = b) := by
  refine ⟨l[0], l[l.length - 1], List.getElem?_eq_getElem h, List.getElem?_eq_getElem (by omega), ?_⟩
  rw [List.head?_eq_getElem?, List.getLast?_eq_getElem?, List.getElem?_eq_getElem h, List.getElem?_eq_getElem (by omega)]
  exact decide_eq_decide.mpr ⟨Option.some.inj, congrArg some⟩
section
variable {P : Program} {w : World} {K : PySem.W.Frag} {mg : Str → Option Value} {base : Heap}
def spPart (K : PySem.W.Frag) : Sp := fun vs H Q _ => ∃ (a : Addr) (ws : List Str), vs = [.ref a] ∧ SqL K H a (ws.map V.str) ∧ (∀ x ∈ ws, Asc x) ∧ ws.length ≤ 100000 ∧ ∀ v H', Same H H' → Dp K H' v (oPartD (partM ws)) → Q v H'
theorem scPart : FnScope ["words", "wanted", "found", "question", "named"] ["words"] (defScope s_read_part) := ⟨rfl, rfl, rfl, by decide +kernel, rfl, by decide +kernel, by decide +kernel⟩
theorem ok_part (R : Raw K mg "read_part" s_read_part ["words"]) (F0 : TopF K w mg) (DF : Def P w K mg base CX0 "first_filled" 4 ["forms", "words"] (spFirst K)) : Def P w K mg base CX0 "read_part" 5 ["words"] (spPart K) := by
  obtain ⟨aR, gR, hR⟩ := F0.parts
  obtain ⟨fF, dF, GF, gF, kF, bF⟩ := DF
  refine R.def fun f fd F => F.ok scPart (fun vs H Q E h => ?_) (fun cdv A outer s H vs Q E hr h => ?_)
  · obtain ⟨a, ws, rfl, _⟩ := h
    rfl
  · obtain ⟨a, ws, rfl, sq, ha, hl, k⟩ := h
    have hu64 : (A.deeper (envOfC "read_part" (defScope s_read_part) s.heap.objs.size f cdv)).units + 64 < cLine := by have := hr.un; omega
    obtain ⟨tR, pR, qR⟩ : ∃ tR, PSs (cxOf CX0 P w K mg base ["words", "wanted", "found", "question", "named"] "read_part" (defScope s_read_part) f cdv A outer s H E).nox ((defBody s_read_part).drop 2) tR ∧
        ∀ (b : Bool) (v : V) (H3 : Hp), b = (!decide (ws.take 1 = [("not" : Str)])) → Same H H3 → Dp K H3 v (foundD (firstM PR (if b = true then ws else ws.drop 1))) → tR { nx := fun _ H' => Q .non H', rt := Q } [some (.ref a), some (.bl b), some v, none, none] H3 := by
      refine ⟨_, pss_cons (ps_if (pt_cmpR op_isN (pv 2) pe_non (nomark _)) (pss_one (ps_ret pe_non)) pss_nil)
        (pss_cons (ps_asg (pv 2) (pg_tup rfl (pgs_cons (pg_name (i := 3) scPart.nd rfl (Or.inl rfl)) (pgs_cons (pg_name (i := 4) scPart.nd rfl (Or.inl rfl)) pgs_nil))))
        (pss_cons (ps_if (PW.pt (pw_and (pt_cmpR op_in_seq (pv 3) (pe_tup (pa_cons pe_str (pa_cons pe_str (pa_cons pe_str pa_nil)))) (by rfl)) (pw_and1 (pt_cmpR op_eq (pe_ix ix_tup (pv 4) pe_int (fun _ _ => rfl)) (pe_ix ix_tup (pv 4) (pe_un un_neg pe_int) (fun _ _ => rfl)) (nomark _))))) (pss_one (ps_ret pe_non)) pss_nil)
        (pss_one (ps_ret (pe_tup (pa_cons (pv 1) (pa_cons (pv 3) (pa_cons (pv 4) pa_nil)))))))), ?_⟩
      intro b v H3 hb s3 d3
      have ek : partM ws = match firstM PR (if b = true then ws else ws.drop 1) with | none => none | some p => if (threeQ p.1 && decide (p.2.head? = p.2.getLast?)) = true then none else some ⟨b, p.1, p.2⟩ := by rw [hb]; rfl
      rw [ek] at k
      refine ⟨_, rfl, rfl, _, rfl, ?_⟩
      generalize hus : (if b = true then ws else ws.drop 1) = us at *
      cases hf : firstM PR us with
      | none =>
        rw [hf] at d3 k
        cases d3
        exact ifT (by rfl) (k _ _ s3 .non)
      | some p =>
        rw [hf] at d3 k
        have k2 : ∀ v H', Same H H' → Dp K H' v (oPartD (if (threeQ p.1 && decide (p.2.head? = p.2.getLast?)) = true then none else some ⟨b, p.1, p.2⟩)) → Q v H' := k
        obtain ⟨t, ts, rfl, sqt, dt⟩ := dp_tup d3
        cases dt with
        | cons h1 dt => cases dt with
          | cons h2 dt =>
            cases dt
            cases dp_str h1
            obtain ⟨aw, rfl, sw⟩ := dp_strsT h2
            refine ifF (by rfl) ⟨_, rfl, t, _, rfl, sqt, rfl, _, _, rfl, _, _, rfl, rfl, ?_⟩
            refine ⟨_, rfl, (by show 3 ≤ sizeLine; decide), fun q hq => ?_⟩
            have s4 := s3.trans (same_upd (o := .tup [V.str "same", V.str "numbers", V.str "distances"]) hq)
            have sw4 := (same_upd (o := .tup [V.str "same", V.str "numbers", V.str "distances"]) hq).sqT sw
            have h24 := h2.keep (same_upd (o := .tup [V.str "same", V.str "numbers", V.str "distances"]) hq)
            refine ⟨q, _, rfl, .inr (SqT.of upd_same), rfl, by rfl, _, rfl, ?_⟩
            have last : (threeQ p.1 && decide (p.2.head? = p.2.getLast?)) = false → _ := fun e => (fun q2 hq2 => k2 (.ref q2) _ (s4.trans (same_upd (o := .tup [V.bl b, V.str p.1, V.ref aw]) hq2)) (by rw [e, if_neg (by decide)]; exact .tup (SqT.of upd_same) (.cons (.bl b) (.cons (.str _) (.cons (h24.keep (same_upd hq2)) .nil)))) : ∀ q2, (upd H3 q (.tup [V.str "same", V.str "numbers", V.str "distances"])) q2 = none → Q (.ref q2) (upd (upd H3 q (.tup [V.str "same", V.str "numbers", V.str "distances"])) q2 (.tup [V.bl b, V.str p.1, V.ref aw])))
            show if threeQ p.1 = true then _ else _
            cases c3 : threeQ p.1 with
            | false => exact iteF ⟨_, rfl, _, rfl, _, rfl, (by show 3 ≤ sizeLine; decide), fun q2 hq2 => last (by rw [c3]; rfl) q2 hq2⟩
            | true =>
              obtain ⟨form, m1, _, m2⟩ := first_len hf
              have pos : 0 < p.2.length := by rw [m2]; exact three_two _ m1 c3
              obtain ⟨x, y, e1, e2, e3⟩ := ends_eq pos
              refine iteT ⟨_, rfl, aw, _, 0, .str x, rfl, rfl, sw4, atI_nat (by rw [List.getElem?_map, e1]; rfl), _, rfl, _, rfl, aw, _, -1, .str y, rfl, rfl, sw4, ?_, rfl, _, rfl, ?_⟩
              · have el : p.2 = p.2.dropLast ++ [y] := by
                  have hne : p.2 ≠ [] := fun z => by rw [z] at pos; cases pos
                  rw [List.getElem?_eq_getElem (by omega)] at e2
                  have e2 := Option.some.inj e2
                  rw [← List.getLast_eq_getElem hne] at e2
                  rw [← e2, List.dropLast_concat_getLast hne]
                rw [el, List.map_append]
                exact atI_last _ _
              · rw [e3] at last
                by_cases c : x = y
                · refine ifT (decide_eq_true (congrArg V.str c)) ?_
                  rw [e3, c3, decide_eq_true c, if_pos (by rfl)] at k2
                  exact k2 _ _ s4 .non
                · refine ifF (decide_eq_false fun z => c (V.str.inj z)) ?_
                  exact ⟨_, rfl, _, rfl, _, rfl, (by show 3 ≤ sizeLine; decide), fun q2 hq2 => last (by rw [decide_eq_false c, Bool.and_false]) q2 hq2⟩
    refine ⟨_, pss_cons (ps_set (i := 1) scPart.nd rfl (Or.inl rfl) (pe_cmpR (op_neD hu64) (pe_slice sl_list (pv 0) po_none (po_some pe_int)) (pe_lst (pa_cons pe_str pa_nil)) (nomark _)))
      (pss_cons (ps_set (i := 2) scPart.nd rfl (Or.inl rfl) (pe_call GF hr (by rfl) gF kF bF .nil pass0 (pa_cons (pe_glob (v := .ref aR) (by rfl) gR rfl) (pa_cons (pe_ifExp (pt_val (pv 1)) (pv 0) (pe_slice sl_list (pv 0) (po_some pe_int) po_none)) pa_nil)))) pR), ?_⟩
    refine ⟨_, rfl, 1, rfl, a, _, rfl, sq, fun p1 hp1 => ⟨(by show 1 ≤ sizeLine; decide), fun p2 hp2 => ?_⟩⟩
    have s1 := same_upd (o := .lst (cutV (ws.map V.str) none (some 1))) hp1
    have s2 := s1.trans (same_upd (o := .lst [V.str "not"]) hp2)
    have n12 : p1 ≠ p2 := fun z => by rw [← z, upd_same] at hp2; cases hp2
    have asc1 : ∀ x ∈ ws.take 1, Asc x := fun x hx => ha x (List.mem_of_mem_take hx)
    have ascN : ∀ x ∈ [("not" : Str)], Asc x := fun x hx => by rw [List.mem_singleton.mp hx]; exact ⟨by decide +kernel, by decide +kernel⟩
    refine ⟨.list ((ws.take 1).map .str), .list ([("not" : Str)].map .str), .lst (SqL.of (by rw [upd_ne n12, upd_same, cut_one, ← List.map_take])) (dp_strs _), .lst (SqL.of upd_same) (dp_strs [("not" : Str)]), strsL_shaped asc1, strsL_shaped ascN, ?_⟩
    rw [show PyData.eqv (.list ((ws.take 1).map .str)) (.list ([("not" : Str)].map .str)) = decide (ws.take 1 = [("not" : Str)]) from eqvAll_strs _ _]
    have hlp : ∀ p ∈ PR, p.2.length ≤ 100 := forms_short.1
    generalize hb : (!decide (ws.take 1 = [("not" : Str)])) = b
    refine ⟨_, rfl, b, rfl, ?_⟩
    cases b with
    | true => exact iteT ⟨_, rfl, .ref aR, PR, a, ws, rfl, hR _, hlp, s2.seq sq, ha, hl, fun v H3 s3 d3 => qR true v H3 hb.symm (s2.trans s3) d3⟩
    | false =>
      refine iteF ⟨_, rfl, 1, rfl, a, _, rfl, s2.seq sq, fun p3 hp3 => ⟨.ref aR, PR, p3, ws.drop 1, rfl, hR _, hlp, SqL.of (by rw [upd_same, cut_from, ← List.map_drop]), fun x hx => ha x (List.mem_of_mem_drop hx), by rw [List.length_drop]; omega, fun v H3 s3 d3 => qR false v H3 hb.symm ((s2.trans (same_upd hp3)).trans s3) d3⟩⟩
end
end K40

namespace L2
open PySem PySem.Spec PyProof.Rows
mutual
def tOnly : PyData → Bool
  | .tuple ds => tOnlyAll ds
  | .list _ => false
  | .dict _ => false
  | .none => true
  | .bool _ => true
  | .int _ => true
  | .str _ => true
def tOnlyAll : List PyData → Bool
  | [] => true
  | d :: ds => tOnly d && tOnlyAll ds
end
/-- tuples stand as before -/
def ExtT (H H' : Hp) : Prop := ∀ q o, ((∃ xs, o = .tup xs) ∨ ∃ u v, o = .frz u v) → H q = some o → H' q = some o
theorem ExtT.of {H H' : Hp} (s : Same H H') : ExtT H H' := fun q o _ h => s q o h
theorem ExtT.refl (H : Hp) : ExtT H H := fun _ _ _ h => h
theorem ExtT.trans {H H1 H2 : Hp} (x : ExtT H H1) (y : ExtT H1 H2) : ExtT H H2 := fun q o s h => y q o s (x q o s h)
/-- a change at an object that is no tuple -/
theorem ExtT.upd {H : Hp} {p : Addr} {o u : HO} (h : H p = some u) (n : (∀ xs, u ≠ .tup xs) ∧ ∀ a b, u ≠ .frz a b) : ExtT H (L2.upd H p o) := fun q v hv hq => by
  refine (upd_ne fun e => ?_).trans hq
  rw [e, h] at hq
  cases Option.some.inj hq
  rcases hv with ⟨xs, z⟩ | ⟨a, b, z⟩
  · exact n.1 xs z
  · exact n.2 a b z
theorem ExtT.lst {H : Hp} {p : Addr} {o : HO} {xs : List V} (h : H p = some (.lst xs)) : ExtT H (L2.upd H p o) := .upd h ⟨fun _ z => (nomatch z), fun _ _ z => nomatch z⟩
theorem ExtT.ins {H : Hp} {p C dx : Addr} {o : HO} {fs : List (Str × V)} (h : H p = some (.ins C dx fs)) : ExtT H (L2.upd H p o) := .upd h ⟨fun _ z => (nomatch z), fun _ _ z => nomatch z⟩
theorem ExtT.dk {H : Hp} {p : Addr} {o : HO} {kvs : List (Key × V)} (h : H p = some (.dK kvs)) : ExtT H (L2.upd H p o) := .upd h ⟨fun _ z => (nomatch z), fun _ _ z => nomatch z⟩
theorem ExtT.sqT {K : PySem.W.Frag} {H H' : Hp} (s : ExtT H H') {a : Addr} {xs : List V} (q : SqT K H a xs) : SqT K H' a xs := by
  rcases q with (q | ⟨o, q⟩) | q
  · exact .inl (.inl (s _ _ (.inl ⟨_, rfl⟩) q))
  · exact .inl (.inr ⟨o, s _ _ (.inr ⟨_, _, rfl⟩) q⟩)
  · exact .inr q
theorem Dp.keepT {K : PySem.W.Frag} {H H' : Hp} (s : ExtT H H') : ∀ {d : PyData} {v : V}, Dp K H v d → tOnly d = true → Dp K H' v d := by
  intro d v h
  induction h using Dp.rec (motive_2 := fun vs ds _ => tOnlyAll ds = true → DpAll K H' vs ds) with
  | non => intro _; exact .non
  | bl b => intro _; exact .bl b
  | int i => intro _; exact .int i
  | str x => intro _; exact .str x
  | lst q _ ih => intro h; cases h
  | tup q _ ih => intro h; exact .tup (s.sqT q) (ih h)
  | nil => exact .nil
  | cons _ _ ih1 ih2 =>
    rename_i h
    obtain ⟨h1, h2⟩ := Bool.and_eq_true_iff.mp h
    exact .cons (ih1 h1) (ih2 h2)
theorem DpAll.keepT {K : PySem.W.Frag} {H H' : Hp} (s : ExtT H H') : ∀ {ds : List PyData} {vs : List V}, DpAll K H vs ds → tOnlyAll ds = true → DpAll K H' vs ds
  | [], _, .nil, _ => .nil
  | _ :: _, _, .cons a b, h => .cons (a.keepT s (Bool.and_eq_true_iff.mp h).1) (DpAll.keepT s b (Bool.and_eq_true_iff.mp h).2)
theorem tOnlyAll_iff {ds : List PyData} : tOnlyAll ds = true ↔ ∀ d ∈ ds, tOnly d = true := by
  induction ds with
  | nil => simp [tOnlyAll]
  | cons d r ih => simp [tOnlyAll, ih]
end L2
namespace K40
open PySem PySem.Spec PyProof.Rows L2 Fm PySem.RingX
theorem tOnly_strs (ws : List Str) : tOnly (strsD ws) = true := by
  show tOnlyAll _ = true
  exact tOnlyAll_iff.mpr fun d hd => by
    obtain ⟨x, _, rfl⟩ := List.mem_map.mp hd
    rfl
theorem tOnly_part (p : Part) : tOnly (partD p) = true := by
  show (true && (true && (tOnly (strsD p.words) && true))) = true
  rw [tOnly_strs]; rfl
theorem tOnly_oPart (p : Option Part) : tOnly (oPartD p) = true := by
  cases p with
  | none => rfl
  | some p => exact tOnly_part p
theorem tOnly_test (t : List Part) : tOnly (testD t) = true := by
  show tOnlyAll _ = true
  exact tOnlyAll_iff.mpr fun d hd => by
    obtain ⟨x, _, rfl⟩ := List.mem_map.mp hd
    exact tOnly_part x
/-! shapes -/
theorem strs_lay {ws : List Str} (h : ∀ x ∈ ws, Asc x) : (strsD ws).canLay0 = true ∧ (strsD ws).depth ≤ 2 := by
  obtain ⟨h1, h2⟩ := strs_shape h
  unfold strsD
  simp only [PyData.canLay0, PyData.depth, h1, true_and]
  omega
theorem filled_sub {form : Str} {ws x : List Str} (h : filledM form ws = some x) : ∀ y ∈ x, y ∈ ws := by
  unfold filledM at h
  split at h
  · split at h
    · cases h
      intro y hy
      obtain ⟨q, hq, rfl⟩ := List.mem_map.mp hy
      exact (List.of_mem_zip (List.mem_filter.mp hq).1).2
    · cases h
  · cases h
theorem names_asc : ∀ p ∈ PR ++ (WR ++ (OL ++ LL)), Asc p.1 := by
  have : ∀ p ∈ PR ++ (WR ++ (OL ++ LL)), (∀ c ∈ p.1.cps.toList, c < 128) ∧ p.1.length ≤ 100000 := by decide +kernel
  exact this
theorem part_lay {ws : List Str} (h : ∀ x ∈ ws, Asc x) : (oPartD (partM ws)).canLay0 = true ∧ (oPartD (partM ws)).depth ≤ 3 := by
  have hm : ∀ p, partM ws = some p → Asc p.question ∧ ∀ x ∈ p.words, x ∈ ws := by
    intro p hp
    unfold partM at hp
    dsimp only at hp
    generalize hus : (if (!decide (ws.take 1 = [("not" : Str)])) = true then ws else ws.drop 1) = us at hp
    have sub : ∀ x ∈ us, x ∈ ws := fun x hx => by
      rw [← hus] at hx
      split at hx
      · exact hx
      · exact List.mem_of_mem_drop hx
    cases hf : firstM PR us with
    | none => rw [hf] at hp; cases hp
    | some q =>
      rw [hf] at hp
      dsimp only at hp
      split at hp
      · cases hp
      · cases hp
        obtain ⟨form, m1, m2, _⟩ := first_len hf
        exact ⟨names_asc _ (List.mem_append_left _ m1), fun x hx => sub x (filled_sub m2 x hx)⟩
  cases hp : partM ws with
  | none => exact ⟨rfl, by show PyData.depth .none ≤ 3; simp [PyData.depth]⟩
  | some p =>
    obtain ⟨h1, h2⟩ := hm p hp
    obtain ⟨h3, h4⟩ := strs_lay (ws := p.words) fun x hx => h x (h2 x hx)
    show (partD p).canLay0 = true ∧ (partD p).depth ≤ 3
    unfold partD
    simp only [PyData.canLay0, PyData.canLayAll0, PyData.depth, PyData.depthAll, h3, asc_ok h1, Bool.and_self, true_and]
    omega
theorem lay_all {n : Nat} : ∀ {ds : List PyData}, (∀ d ∈ ds, d.canLay0 = true ∧ d.depth ≤ n) → PyData.canLayAll0 ds = true ∧ PyData.depthAll ds ≤ n
  | [], _ => by simp [PyData.canLayAll0, PyData.depthAll]
  | d :: ds, h => by
    obtain ⟨h1, h2⟩ := h d List.mem_cons_self
    obtain ⟨h3, h4⟩ := lay_all fun e he => h e (List.mem_cons_of_mem _ he)
    simp only [PyData.canLayAll0, PyData.depthAll, h1, h3, Bool.and_self, true_and]
    omega
end K40

namespace K40
open PySem PySem.Spec PyProof.Rows L2 Fm PySem.RingX
/-- a list p of new lists of texts -/
structure Heaps (H : Hp) (p : Addr) (L : List (Addr × List Str)) : Prop where
  lst : H p = some (.lst (L.map fun q => V.ref q.1))
  each : ∀ q ∈ L, H q.1 = some (.lst (q.2.map V.str))
  nd : (L.map (·.1)).Nodup
  off : ∀ q ∈ L, q.1 ≠ p
theorem Heaps.more {H : Hp} {p q : Addr} {L : List (Addr × List Str)} (x : Heaps H p L) (hq : H q = none) : Heaps (upd (upd H q (.lst [])) p (.lst ((L.map fun q => V.ref q.1) ++ [V.ref q]))) p (L ++ [(q, [])]) := by
  have qp : q ≠ p := (ne_of_none x.lst hq).symm
  have ne : ∀ c ∈ L, c.1 ≠ q := fun c hc => ne_of_none (x.each c hc) hq
  refine ⟨by rw [upd_same, List.map_append]; rfl, fun c hc => ?_, ?_, fun c hc => ?_⟩
  · rcases List.mem_append.mp hc with hc | hc
    · rw [upd_ne (x.off c hc), upd_ne (ne c hc)]; exact x.each c hc
    · rw [List.mem_singleton.mp hc, upd_ne qp, upd_same]; rfl
  · rw [List.map_append]
    refine List.nodup_append.mpr ⟨x.nd, by simp, fun a ha b hb => ?_⟩
    obtain ⟨c, hc, rfl⟩ := List.mem_map.mp ha
    rw [show b = q by simpa using hb]
    exact ne c hc
  · rcases List.mem_append.mp hc with hc | hc
    · exact x.off c hc
    · rw [List.mem_singleton.mp hc]; exact qp
theorem Heaps.grow {H : Hp} {p q : Addr} {L : List (Addr × List Str)} {ss : List Str} {w : Str} (x : Heaps H p (L ++ [(q, ss)])) : Heaps (upd H q (.lst (ss.map V.str ++ [V.str w]))) p (L ++ [(q, ss ++ [w])]) := by
  have nq : q ≠ p := x.off (q, ss) (by simp)
  have nd := x.nd
  rw [List.map_append] at nd
  obtain ⟨nd1, _, nd3⟩ := List.nodup_append.mp nd
  refine ⟨by rw [upd_ne (Ne.symm nq), x.lst, List.map_append, List.map_append]; rfl, fun c hc => ?_, by rw [List.map_append]; exact nd, fun c hc => ?_⟩
  · rcases List.mem_append.mp hc with hc | hc
    · have : c.1 ≠ q := nd3 _ (List.mem_map_of_mem hc) q (by simp)
      rw [upd_ne this]
      exact x.each c (List.mem_append_left _ hc)
    · rw [List.mem_singleton.mp hc, upd_same, List.map_append]; rfl
  · rcases List.mem_append.mp hc with hc | hc
    · exact x.off c (List.mem_append_left _ hc)
    · rw [List.mem_singleton.mp hc]; exact nq
theorem Heaps.keep {H H' : Hp} {p : Addr} {L : List (Addr × List Str)} (x : Heaps H p L) (s : Same H H') : Heaps H' p L := ⟨s _ _ x.lst, fun q hq => s _ _ (x.each q hq), x.nd, x.off⟩
theorem splitAnd_take {ws : List Str} {i : Nat} {w : Str} (h : ws[i]? = some w) : (ws.take (i + 1)).foldl andStep [[]] = andStep ((ws.take i).foldl andStep [[]]) w := by
  rw [take_more h, List.foldl_append]; rfl
theorem splitAnd_ne (ws : List Str) : ∀ ps : List (List Str), ps ≠ [] → ws.foldl andStep ps ≠ [] := by
  induction ws with
  | nil => exact fun ps h => h
  | cons w r ih =>
    intro ps h
    refine ih _ ?_
    unfold andStep
    split <;> simp
theorem splitAnd_mem (ws : List Str) : ∀ ps : List (List Str), ∀ q ∈ ws.foldl andStep ps, ∀ x ∈ q, x ∈ ws ∨ ∃ r ∈ ps, x ∈ r := by
  induction ws with
  | nil => exact fun ps q hq x hx => .inr ⟨q, hq, hx⟩
  | cons w r ih =>
    intro ps q hq x hx
    rcases ih _ q hq x hx with h | ⟨c, hc, hx'⟩
    · exact .inl (List.mem_cons_of_mem _ h)
    · unfold andStep at hc
      split at hc
      · rcases List.mem_append.mp hc with hc | hc
        · exact .inr ⟨c, hc, hx'⟩
        · rw [List.mem_singleton.mp hc] at hx'; cases hx'
      · rcases List.mem_append.mp hc with hc | hc
        · exact .inr ⟨c, List.dropLast_subset _ hc, hx'⟩
        · rw [List.mem_singleton.mp hc] at hx'
          rcases List.mem_append.mp hx' with hx' | hx'
          · cases hl : ps.getLast? with
            | none => rw [hl] at hx'; cases hx'
            | some l => rw [hl] at hx'; exact .inr ⟨l, List.mem_of_getLast? hl, hx'⟩
          · rw [List.mem_singleton.mp hx']; exact .inl List.mem_cons_self
theorem andStep_len (ps : List (List Str)) (w : Str) : (andStep ps w).length ≤ ps.length + 1 := by
  unfold andStep
  split
  · simp
  · simp only [List.length_append, List.length_dropLast, List.length_cons, List.length_nil]; omega
theorem andStep_each {ps : List (List Str)} {w : Str} {n : Nat} (hn : ∀ r ∈ ps, r.length ≤ n) : ∀ r ∈ andStep ps w, r.length ≤ n + 1 := fun c hc => by
  unfold andStep at hc
  split at hc
  · rcases List.mem_append.mp hc with hc | hc
    · have := hn c hc; omega
    · rw [List.mem_singleton.mp hc]; simp
  · rcases List.mem_append.mp hc with hc | hc
    · have := hn c (List.dropLast_subset _ hc); omega
    · rw [List.mem_singleton.mp hc, List.length_append]
      cases hl : ps.getLast? with
      | none => simp
      | some l =>
        have := hn l (List.mem_of_getLast? hl)
        simp; omega
theorem splitAnd_len (ws : List Str) : ∀ ps : List (List Str), (ws.foldl andStep ps).length ≤ ps.length + ws.length ∧ ∀ n, (∀ r ∈ ps, r.length ≤ n) → ∀ q ∈ ws.foldl andStep ps, q.length ≤ n + ws.length := by
  induction ws with
  | nil => exact fun ps => ⟨by simp, fun n h q hq => by have := h q hq; simpa using this⟩
  | cons w r ih =>
    intro ps
    obtain ⟨h1, h2⟩ := ih (andStep ps w)
    refine ⟨?_, fun n hn q hq => ?_⟩
    · show (r.foldl andStep (andStep ps w)).length ≤ _
      have := andStep_len ps w
      rw [List.length_cons]; omega
    · have := h2 (n + 1) (andStep_each hn) q hq
      rw [List.length_cons]; omega
section
variable {P : Program} {w : World} {K : PySem.W.Frag} {mg : Str → Option Value} {base : Heap}
def spTest (K : PySem.W.Frag) : Sp := fun vs H Q _ => ∃ (a : Addr) (ws : List Str), vs = [.ref a] ∧ SqL K H a (ws.map V.str) ∧ (∀ x ∈ ws, Asc x) ∧ ws.length ≤ 100000 ∧ ∀ v H', Same H H' → Dp K H' v (oTestD (testM ws)) → Q v H'
theorem scTest : FnScope ["words", "parts", "word", "test", "part"] ["words"] (defScope s_read_test) := ⟨rfl, rfl, rfl, by decide +kernel, rfl, by decide +kernel, by decide +kernel⟩
theorem ok_test (R : Raw K mg "read_test" s_read_test ["words"]) (T : GB mg) (DF : Def P w K mg base CX0 "read_part" 5 ["words"] (spPart K)) : Def P w K mg base CX0 "read_test" 6 ["words"] (spTest K) := by
  obtain ⟨fF, dF, GF, gF, kF, bF⟩ := DF
  refine R.def fun f fd F => F.ok scTest (fun vs H Q E h => ?_) (fun cdv A outer s H vs Q E hr h => ?_)
  · obtain ⟨a, ws, rfl, _⟩ := h
    rfl
  · obtain ⟨a, ws, rfl, sq, ha, hl, k⟩ := h
    have hu65 : (A.deeper (envOfC "read_test" (defScope s_read_test) s.heap.objs.size f cdv)).units + 65 < cLine := by have := hr.un; omega
    refine ⟨_, pss_cons (ps_set (i := 1) scTest.nd rfl (Or.inl rfl) (pe_lst (pa_cons (pe_lst pa_nil) pa_nil)))
      (pss_cons (ps_for PassesOwn.never rfl (pi_list (pv 0)) (pg_name (i := 2) scTest.nd rfl (Or.inl rfl))
        (pss_one (ps_if (pt_cmpR op_eq (pv 2) pe_str (nomark _))
          (pss_one (ps_expr (pe_bm PySem.F.plainAttrs_list PySem.F.slot_list_append PySem.F.type_list_append mt_append (pv 1) (pa_cons (pe_lst pa_nil) pa_nil))))
          (pss_one (ps_expr (pe_bm PySem.F.plainAttrs_list PySem.F.slot_list_append PySem.F.type_list_append mt_append (pe_ix ix_list (pv 1) (pe_un un_neg pe_int) (fun _ _ => rfl)) (pa_cons (pv 2) pa_nil)))))))
      (pss_cons (ps_set (i := 3) scTest.nd rfl (Or.inl rfl) (pe_tupleOf (by rfl) T.tup (pe_lc (own := [("part", 4)]) (g := gName 4) (tt := tYes) (te := tCall (spPart K) [] E (tCons (tVar 4) tNil)) rfl scTest.nd (pi_list (pv 1)) (blkOk_by (own := [("part", 4)]) (N := ["words", "parts", "word", "test", "part"]) (sc := defScope s_read_test) (by decide +kernel))
          (fun _ _ _ _ _ => pg_name (i := 4) scTest.nd rfl (Or.inl rfl)) (fun _ _ _ _ _ => pts_nil) (fun _ _ _ _ _ => pe_call GF hr (by rfl) gF kF bF .nil pass0 (pa_cons (pv 4) pa_nil)))))
      (pss_one (ps_ret (pe_ifExp (pt_cmpR (op_inDT hu65) pe_non (pv 3) (by rfl)) pe_non (pv 3)))))), ?_⟩
    refine ⟨(by show 0 ≤ sizeLine; decide), fun q0 hq0 => ⟨(by show 1 ≤ sizeLine; decide), fun p hp => ?_⟩⟩
    have s1 := same_upd (o := .lst []) hq0
    have s2 := s1.trans (same_upd (o := .lst [V.ref q0]) hp)
    have qp0 : q0 ≠ p := fun z => by rw [← z, upd_same] at hp; cases hp
    have HH : Heaps (upd (upd H q0 (.lst [])) p (.lst [V.ref q0])) p [(q0, [])] := ⟨upd_same, fun c hc => by rw [List.mem_singleton.mp hc, upd_ne qp0, upd_same]; rfl, by simp, fun c hc => by rw [List.mem_singleton.mp hc]; exact qp0⟩
    have hp0 : H p = none := by
      cases e : H p with
      | none => rfl
      | some o => rw [s1 _ _ e] at hp; cases hp
    refine ⟨_, rfl, a, rfl, ⟨_, s2.seq sq⟩, for_list (K := K) (a := a) (xs := ws.map V.str) (fun i σ H' => (∃ x2, σ = [some (.ref a), some (.ref p), x2, none, none]) ∧ Same H H' ∧ ∃ L, Heaps H' p L ∧ L.map (·.2) = (ws.take i).foldl andStep [[]] ∧ ∀ c ∈ L, H c.1 = none) ⟨⟨_, rfl⟩, s2, _, HH, rfl, fun c hc => by rw [List.mem_singleton.mp hc]; exact hq0⟩ (fun i σ H' _ h => h.2.1.seq sq) ?_ ?_⟩
    · rintro i x σ H1 hx ⟨⟨x2, rfl⟩, s3, L, hL, eL, nL⟩
      rw [List.getElem?_map] at hx
      obtain ⟨y, hy, rfl⟩ := Option.map_eq_some_iff.mp hx
      have hi : i < ws.length := (List.getElem?_eq_some_iff.mp hy).1
      have et := splitAnd_take hy
      have lens := splitAnd_len (ws.take i) [[]]
      rw [← eL, List.length_map, List.length_take] at lens
      have ll : L.length ≤ 100001 := by have := lens.1; simp only [List.length_cons, List.length_nil] at this; omega
      refine ⟨_, rfl, rfl, _, rfl, ?_⟩
      by_cases c : y = "and"
      · refine ifT (decide_eq_true (congrArg V.str c)) ?_
        refine ⟨_, rfl, .inl ⟨rfl, _, SqL.of hL.lst⟩, (by show 0 ≤ sizeLine; decide), fun q hq => ?_⟩
        have qp : q ≠ p := (ne_of_none hL.lst hq).symm
        refine ⟨p, _, _, rfl, rfl, (upd_ne (Ne.symm qp)).trans hL.lst, by rw [List.length_map, sizeLine_eq]; omega, ⟨_, rfl⟩, ?_, L ++ [(q, [])], hL.more hq, ?_, fun c hc => ?_⟩
        · exact (s3.trans (same_upd hq)).updl hp0
        · rw [et, ← eL, List.map_append]
          unfold andStep
          rw [if_pos c]; rfl
        · rcases List.mem_append.mp hc with hc | hc
          · exact nL c hc
          · rw [List.mem_singleton.mp hc]
            cases e : H q with
            | none => rfl
            | some o => rw [s3 _ _ e] at hq; cases hq
      · refine ifF (decide_eq_false fun z => c (V.str.inj z)) ?_
        have Lne : L ≠ [] := fun z => splitAnd_ne (ws.take i) [[]] (by simp) (by rw [← eL, z]; rfl)
        obtain ⟨L1, q, eq⟩ : ∃ L1 q, L = L1 ++ [q] := ⟨L.dropLast, L.getLast Lne, (List.dropLast_concat_getLast Lne).symm⟩
        subst eq
        obtain ⟨q, ss⟩ := q
        have hqs := hL.each (q, ss) (by simp)
        have sl : ss.length ≤ 100000 := by
          have := lens.2 0 (fun r hr => by rw [List.mem_singleton.mp hr]; exact Nat.le_refl _) ss (by rw [List.map_append]; simp)
          omega
        refine ⟨_, rfl, _, rfl, p, _, _, .ref q, rfl, rfl, SqL.of hL.lst, by rw [List.map_append]; exact atI_last _ _, .inl ⟨rfl, _, SqL.of hqs⟩, _, rfl, q, _, _, rfl, rfl, hqs, by rw [List.length_map, sizeLine_eq]; show ss.length < _; omega, ⟨_, rfl⟩, ?_, L1 ++ [(q, ss ++ [y])], hL.grow, ?_, fun c hc => ?_⟩
        · exact s3.updl (nL (q, ss) (by simp))
        · rw [et, ← eL, List.map_append, List.map_append]
          unfold andStep
          rw [if_neg c]
          simp
        · rcases List.mem_append.mp hc with hc | hc
          · exact nL c (List.mem_append_left _ hc)
          · rw [List.mem_singleton.mp hc]; exact nL (q, ss) (by simp)
    · rintro σ H1 ⟨⟨x2, rfl⟩, s3, L, hL, eL, nL⟩
      rw [List.length_map, List.take_length] at eL
      have lens := splitAnd_len ws [[]]
      rw [← eL, List.length_map] at lens
      have ll : L.length ≤ 100001 := by have := lens.1; simp only [List.length_cons, List.length_nil] at this; omega
      refine ⟨_, rfl, p, rfl, ⟨_, SqL.of hL.lst⟩, fun D hD => lc_list (K := K) (a := p) (xs := L.map fun q => V.ref q.1) (fun i H' => Same H1 H' ∧ ∃ ys, H' D = some (.lst ys) ∧ DpAll K H' ys ((L.take i).map fun q => oPartD (partM q.2))) ⟨same_upd hD, [], upd_same, .nil⟩ (fun i H' _ h => SqL.of (h.1 _ _ hL.lst)) ?_ ?_⟩
      · rintro i x H2 hx ⟨s4, ys, hy, dy⟩
        rw [List.getElem?_map] at hx
        obtain ⟨c, hc, rfl⟩ := Option.map_eq_some_iff.mp hx
        have cm := List.mem_of_getElem? hc
        have cin : c.2 ∈ ws.foldl andStep [[]] := by rw [← eL]; exact List.mem_map_of_mem cm
        refine ⟨rfl, _, rfl, c.1, c.2, rfl, SqL.of (s4 _ _ (hL.each c cm)), fun x hx => ?_, ?_, fun v H3 s5 d5 => ?_⟩
        · rcases splitAnd_mem ws [[]] c.2 cin x hx with h | ⟨r, hr, h⟩
          · exact ha x h
          · rw [List.mem_singleton.mp hr] at h; cases h
        · have := lens.2 0 (fun r hr => by rw [List.mem_singleton.mp hr]; exact Nat.le_refl _) c.2 (List.mem_map_of_mem cm)
          omega
        · have h5 := s5 _ _ hy
          have yl := dy.length
          rw [List.length_map, List.length_take] at yl
          have tO : tOnlyAll ((L.take i).map fun q => oPartD (partM q.2)) = true := tOnlyAll_iff.mpr fun d hd => by
            obtain ⟨e, _, rfl⟩ := List.mem_map.mp hd
            exact tOnly_oPart _
          refine ⟨_, h5, by rw [sizeLine_eq]; omega, (s4.trans s5).updl hD, _, upd_same, ?_⟩
          rw [take_more hc, List.map_append]
          exact DpAll.snoc (DpAll.keepT (ExtT.lst h5) (DpAll.keep s5 dy) tO) (d5.keepT (ExtT.lst h5) (tOnly_oPart _))
      · rintro H2 ⟨s4, ys, hy, dy⟩
        rw [List.length_map, List.take_length] at dy
        refine .inl ⟨D, ys, rfl, SqL.of hy, fun t ht => ?_⟩
        have st := same_upd (o := .tup ys) ht
        have dt := DpAll.keep st dy
        have em : (L.map fun q => oPartD (partM q.2)) = ((splitAnd ws).map partM).map oPartD := by
          show _ = ((ws.foldl andStep [[]]).map partM).map oPartD
          rw [← eL, List.map_map, List.map_map]; rfl
        rw [em] at dt
        have lay : ∀ d ∈ ((splitAnd ws).map partM).map oPartD, d.canLay0 = true ∧ d.depth ≤ 3 := fun d hd => by
          obtain ⟨o, ho, rfl⟩ := List.mem_map.mp hd
          obtain ⟨us, hus, rfl⟩ := List.mem_map.mp ho
          refine part_lay fun x hx => ?_
          rcases splitAnd_mem ws [[]] us hus x hx with h | ⟨r, hr, h⟩
          · exact ha x h
          · rw [List.mem_singleton.mp hr] at h; cases h
        obtain ⟨l1, l2⟩ := lay_all lay
        have shp : SeqAt.shaped (.tuple (((splitAnd ws).map partM).map oPartD)) = true := by
          unfold SeqAt.shaped
          simp only [PyData.canLay0, PyData.depth, l1, Bool.true_and]
          exact decide_eq_true (by omega)
        refine ⟨_, rfl, .none, _, .non, .tup (SqT.of upd_same) dt, by kernel_rfl, shp, _, rfl, ?_⟩
        have s5 := ((s3.trans s4).trans st)
        unfold testM at k
        dsimp only at k
        have eany : ((((splitAnd ws).map partM).map oPartD).any fun z => PyData.eqv z .none) = !(((splitAnd ws).map partM).all (·.isSome)) := by
          generalize (splitAnd ws).map partM = l
          induction l with
          | nil => rfl
          | cons o r ih =>
            rw [List.map_cons, List.any_cons, List.all_cons, ih, Bool.not_and]
            congr 1
            cases o <;> rfl
        rw [eany]
        cases hal : ((splitAnd ws).map partM).all (·.isSome) with
        | false =>
          rw [hal, if_neg (by decide)] at k
          exact iteT (k _ _ s5 .non)
        | true =>
          rw [hal, if_pos (by rfl)] at k
          refine iteF ⟨_, rfl, k _ _ s5 ?_⟩
          have e2 : ((splitAnd ws).map partM).map oPartD = (((splitAnd ws).map partM).filterMap id).map partD := by
            revert hal
            generalize (splitAnd ws).map partM = l
            intro hal
            induction l with
            | nil => rfl
            | cons o r ih =>
              obtain ⟨h1, h2⟩ := Bool.and_eq_true_iff.mp (List.all_cons ▸ hal)
              cases o with
              | none => cases h1
              | some p => rw [List.map_cons, ih h2]; rfl
          rw [e2] at dt
          exact .tup (SqT.of upd_same) dt
end
end K40

namespace K40
open PySem PySem.Spec PyProof.Rows L2 Fm PySem.RingX
theorem cps_append (x y : Str) : (x ++ y).cps.toList = x.cps.toList ++ y.cps.toList := by
  show (x.cps ++ y.cps).toList = _
  simp
theorem join_parts (sep : Str) : ∀ l : List Str, (∀ p ∈ l, (∀ c ∈ p.cps.toList, c ∈ (Str.join sep l).cps.toList) ∧ p.length ≤ (Str.join sep l).length) ∧ (1 ≤ sep.length → l.length ≤ (Str.join sep l).length + 1)
  | [] => ⟨(fun p hp => nomatch hp), fun _ => Nat.zero_le _⟩
  | [x] => ⟨fun p hp => by rw [List.mem_singleton.mp hp]; exact ⟨fun c hc => hc, Nat.le_refl _⟩, fun _ => by show 1 ≤ _; omega⟩
  | x :: y :: r => by
    obtain ⟨h1, h2⟩ := join_parts sep (y :: r)
    have e : Str.join sep (x :: y :: r) = x ++ sep ++ Str.join sep (y :: r) := rfl
    rw [e]
    refine ⟨fun p hp => ?_, fun hs => ?_⟩
    · rcases List.mem_cons.mp hp with rfl | hp
      · refine ⟨fun c hc => ?_, ?_⟩
        · rw [cps_append, cps_append]
          exact List.mem_append_left _ (List.mem_append_left _ hc)
        · rw [Str.length_append, Str.length_append]; omega
      · obtain ⟨g1, g2⟩ := h1 p hp
        refine ⟨fun c hc => ?_, ?_⟩
        · rw [cps_append]
          exact List.mem_append_right _ (g1 c hc)
        · rw [Str.length_append]; omega
    · have := h2 hs
      rw [Str.length_append, Str.length_append, List.length_cons]
      omega
theorem split_parts {x sep : Str} (h : Asc x) (hs : 1 ≤ sep.length) : (∀ p ∈ Txt.split x sep, Asc p ∧ p.length ≤ x.length) ∧ (Txt.split x sep).length ≤ x.length + 1 ∧ 1 ≤ (Txt.split x sep).length := by
  have e := StrLaws.join_split x sep
  obtain ⟨h1, h2⟩ := join_parts sep (Txt.split x sep)
  rw [e] at h1 h2
  exact ⟨fun p hp => ⟨⟨fun c hc => h.1 c ((h1 p hp).1 c hc), Nat.le_trans (h1 p hp).2 h.2⟩, (h1 p hp).2⟩, h2 hs, PyProof.Rows.split_pos x sep⟩
/-! ### a line of a program, as an object -/
def lnF (f : Str) (vw vt : V) (lo op tu en th ot : Int) : List (Str × V) := [("form", .str f), ("words", vw), ("test", vt), ("loop", .int lo), ("opener", .int op), ("turn", .int tu), ("ending", .int en), ("then", .int th), ("other", .int ot)]
def lineNames : List Str := ["form", "words", "test", "loop", "opener", "turn", "ending", "then", "other"]
section
variable (f : Str) (vw vt : V) (lo op tu en th ot z : Int)
theorem ln_form : (lnF f vw vt lo op tu en th ot).lookup ("form" : Str) = some (.str f) := by kernel_rfl
theorem ln_words : (lnF f vw vt lo op tu en th ot).lookup ("words" : Str) = some vw := by kernel_rfl
theorem ln_test : (lnF f vw vt lo op tu en th ot).lookup ("test" : Str) = some vt := by kernel_rfl
theorem ln_loop : (lnF f vw vt lo op tu en th ot).lookup ("loop" : Str) = some (.int lo) := by kernel_rfl
theorem ln_opener : (lnF f vw vt lo op tu en th ot).lookup ("opener" : Str) = some (.int op) := by kernel_rfl
theorem ln_turn : (lnF f vw vt lo op tu en th ot).lookup ("turn" : Str) = some (.int tu) := by kernel_rfl
theorem ln_ending : (lnF f vw vt lo op tu en th ot).lookup ("ending" : Str) = some (.int en) := by kernel_rfl
theorem ln_then : (lnF f vw vt lo op tu en th ot).lookup ("then" : Str) = some (.int th) := by kernel_rfl
theorem ln_other : (lnF f vw vt lo op tu en th ot).lookup ("other" : Str) = some (.int ot) := by kernel_rfl
theorem lp_loop : putF "loop" (.int z) (lnF f vw vt lo op tu en th ot) = lnF f vw vt z op tu en th ot := by kernel_rfl
theorem lp_opener : putF "opener" (.int z) (lnF f vw vt lo op tu en th ot) = lnF f vw vt lo z tu en th ot := by kernel_rfl
theorem lp_turn : putF "turn" (.int z) (lnF f vw vt lo op tu en th ot) = lnF f vw vt lo op z en th ot := by kernel_rfl
theorem lp_ending : putF "ending" (.int z) (lnF f vw vt lo op tu en th ot) = lnF f vw vt lo op tu z th ot := by kernel_rfl
theorem lp_then : putF "then" (.int z) (lnF f vw vt lo op tu en th ot) = lnF f vw vt lo op tu en z ot := by kernel_rfl
theorem lp_other : putF "other" (.int z) (lnF f vw vt lo op tu en th ot) = lnF f vw vt lo op tu en th z := by kernel_rfl
theorem ln_made : putF "other" (.int 0) (putF "then" (.int 0) (putF "ending" (.int 0) (putF "turn" (.int 0) (putF "opener" (.int 0) (putF "loop" (.int 0) (putF "test" vt (putF "words" vw (putF "form" (.str f) [])))))))) = lnF f vw vt 0 0 0 0 0 0 := by kernel_rfl
end
theorem putF_le (f : Str) (v : V) : ∀ fs : List (Str × V), (putF f v fs).length ≤ fs.length + 1
  | [] => Nat.le_refl _
  | p :: r => by
    unfold putF
    split
    · simp
    · have := putF_le f v r
      simp only [List.length_cons]; omega
theorem putF_lt {f : Str} {v : V} {fs : List (Str × V)} {n : Nat} (h : fs.length < n) : (putF f v fs).length < n + 1 := Nat.lt_of_le_of_lt (putF_le f v fs) (Nat.add_lt_add_right h 1)
theorem lt1000 {n m : Nat} (h : n < m) (hm : m ≤ 1000 := by decide) : n < 1000 := Nat.lt_of_lt_of_le h hm
theorem nil_lt : ([] : List (Str × V)).length < 1 := by decide
/-- a class of the top -/
structure ClsT (K : PySem.W.Frag) (mg : Str → Option Value) (C : Addr) (nm : Str) (fs : List Str) : Prop where
  cl : Cls K C
  no : ∀ f ∈ fs, NoAttr K C f
  gC : mg nm = some (.ref C)
section
variable {P : Program} {w : World} {K : PySem.W.Frag} {mg : Str → Option Value} {base : Heap}
def spLineI (C : Addr) : Sp := fun vs H Q _ => ∃ (p dx : Addr) (f : Str) (vw vt : V), vs = [.ref p, .str f, vw, vt] ∧ H p = some (.ins C dx []) ∧ Q .non (upd H p (.ins C dx (lnF f vw vt 0 0 0 0 0 0)))
theorem scLineI : FnScope ["self", "form", "words", "test"] ["self", "form", "words", "test"] (defScope s_Line_init) := ⟨rfl, rfl, rfl, by decide +kernel, rfl, by decide +kernel, by decide +kernel⟩
theorem ok_lineI {f C : Addr} {fd : FuncData} (F : Fun K "__init__" "Line.__init__" s_Line_init f fd) (T : ClsT K mg C "Line" lineNames) : FnOk P w K mg base CX0 1 f fd ["self", "form", "words", "test"] (spLineI C) := by
  refine F.ok scLineI (fun vs H Q E h => ?_) (fun cdv A outer s H vs Q E hr h => ?_)
  · obtain ⟨p, dx, f, vw, vt, rfl, _⟩ := h
    rfl
  · obtain ⟨p, dx, fo, vw, vt, rfl, hp, k⟩ := h
    refine ⟨_, pss_cons (ps_fld (pv 0) (pv 1) rfl) (pss_cons (ps_fld (pv 0) (pv 2) rfl) (pss_cons (ps_fld (pv 0) (pv 3) rfl) (pss_cons (ps_fld (pv 0) pe_int rfl) (pss_cons (ps_fld (pv 0) pe_int rfl) (pss_cons (ps_fld (pv 0) pe_int rfl) (pss_cons (ps_fld (pv 0) pe_int rfl) (pss_cons (ps_fld (pv 0) pe_int rfl) (pss_one (ps_fld (pv 0) pe_int rfl))))))))), ?_⟩
    refine ⟨_, rfl, _, rfl, p, C, dx, _, rfl, hp, T.cl, T.no _ (by simp [lineNames]), lt1000 nil_lt, _, rfl, _, rfl, p, C, dx, _, rfl, upd_same, T.cl, T.no _ (by simp [lineNames]), lt1000 (putF_lt (nil_lt)), _, rfl, _, rfl, p, C, dx, _, rfl, upd_same, T.cl, T.no _ (by simp [lineNames]), lt1000 (putF_lt (putF_lt (nil_lt))), _, rfl, p, C, dx, _, rfl, upd_same, T.cl, T.no _ (by simp [lineNames]), lt1000 (putF_lt (putF_lt (putF_lt (nil_lt)))), _, rfl, p, C, dx, _, rfl, upd_same, T.cl, T.no _ (by simp [lineNames]), lt1000 (putF_lt (putF_lt (putF_lt (putF_lt (nil_lt))))), _, rfl, p, C, dx, _, rfl, upd_same, T.cl, T.no _ (by simp [lineNames]), lt1000 (putF_lt (putF_lt (putF_lt (putF_lt (putF_lt (nil_lt)))))), _, rfl, p, C, dx, _, rfl, upd_same, T.cl, T.no _ (by simp [lineNames]), lt1000 (putF_lt (putF_lt (putF_lt (putF_lt (putF_lt (putF_lt (nil_lt))))))), _, rfl, p, C, dx, _, rfl, upd_same, T.cl, T.no _ (by simp [lineNames]), lt1000 (putF_lt (putF_lt (putF_lt (putF_lt (putF_lt (putF_lt (putF_lt (nil_lt)))))))), _, rfl, p, C, dx, _, rfl, upd_same, T.cl, T.no _ (by simp [lineNames]), lt1000 (putF_lt (putF_lt (putF_lt (putF_lt (putF_lt (putF_lt (putF_lt (putF_lt (nil_lt))))))))), ?_⟩
    rw [upd_upd, upd_upd, upd_upd, upd_upd, upd_upd, upd_upd, upd_upd, upd_upd, ln_made]
    exact k
end
end K40

namespace K40
open PySem PySem.Spec PyProof.Rows L2
theorem DpAll.drop {K : PySem.W.Frag} {H : Hp} : ∀ {vs : List V} {ds : List PyData} (i : Nat), DpAll K H vs ds → DpAll K H (vs.drop i) (ds.drop i)
  | _, _, 0, h => h
  | _, _, _ + 1, .nil => .nil
  | _, _, i + 1, .cons _ t => DpAll.drop i t
theorem DpAll.take {K : PySem.W.Frag} {H : Hp} : ∀ {vs : List V} {ds : List PyData} (i : Nat), DpAll K H vs ds → DpAll K H (vs.take i) (ds.take i)
  | _, _, 0, _ => .nil
  | _, _, _ + 1, .nil => .nil
  | _, _, i + 1, .cons h t => .cons h (DpAll.take i t)
theorem DpAll.append {K : PySem.W.Frag} {H : Hp} : ∀ {vs us : List V} {ds es : List PyData}, DpAll K H vs ds → DpAll K H us es → DpAll K H (vs ++ us) (ds ++ es)
  | _, _, _, _, .nil, h => h
  | _, _, _, _, .cons x t, h => .cons x (DpAll.append t h)
end K40
namespace L2
open PySem PySem.Spec PyProof.Rows
section
variable {K : PySem.W.Frag} {H : Hp} {Q : VK}
theorem tup_ok {vs : List V} {ds : List PyData} (h : DpAll K H vs ds) (hl : vs.length ≤ 2000) (k : ∀ v H', Same H H' → Dp K H' v (.tuple ds) → Q v H') : vs.length ≤ sizeLine ∧ ∀ p, H p = none → Q (.ref p) (upd H p (.tup vs)) :=
  ⟨Nat.le_trans hl (by decide), fun p hp => k _ _ (same_upd hp) (.tup (SqT.of upd_same) (DpAll.keep (same_upd hp) h))⟩
theorem lst_ok {vs : List V} {ds : List PyData} (h : DpAll K H vs ds) (hl : vs.length ≤ 2000) (k : ∀ v H', Same H H' → Dp K H' v (.list ds) → Q v H') : vs.length ≤ sizeLine ∧ ∀ p, H p = none → Q (.ref p) (upd H p (.lst vs)) :=
  ⟨Nat.le_trans hl (by decide), fun p hp => k _ _ (same_upd hp) (.lst (SqL.of upd_same) (DpAll.keep (same_upd hp) h))⟩
theorem catA_ok {x y : V} {dx dy : List PyData} (hx : Dp K H x (.tuple dx)) (hy : Dp K H y (.tuple dy)) (hl : dx.length + dy.length ≤ 2000) (k : ∀ v H', Same H H' → Dp K H' v (.tuple (dx ++ dy)) → Q v H') : rCatA K x y H Q := by
  obtain ⟨a, xs, rfl, qx, px⟩ := K40.dp_tup hx
  obtain ⟨b, ys, rfl, qy, py⟩ := K40.dp_tup hy
  have l1 := px.length
  have l2 := py.length
  refine ⟨a, b, xs, ys, rfl, rfl, qx, qy, Nat.le_trans (by omega) (by decide : 2000 ≤ sizeLine), fun e => ?_, fun _ e => ?_, fun _ _ p hp => ?_⟩
  · subst e
    cases px
    exact k _ _ (Same.refl _) hy
  · subst e
    cases py
    rw [← List.append_nil dx] at hx
    exact k _ _ (Same.refl _) hx
  · exact k _ _ (same_upd hp) (.tup (SqT.of upd_same) (DpAll.keep (same_upd hp) (K40.DpAll.append px py)))
end
end L2
namespace K40
open PySem PySem.Spec PyProof.Rows L2 Fm PySem.RingX
/-- a line stands at p -/
def LineAt (K : PySem.W.Frag) (C : Addr) (H : Hp) (p : Addr) (l : LineM) : Prop :=
  ∃ dx vw vt, H p = some (.ins C dx (lnF l.form vw vt l.loop l.opener l.turn l.ending l.thn l.oth)) ∧ Dp K H vw (strsD l.words) ∧ Dp K H vt (testD l.test)
theorem LineAt.keep {K : PySem.W.Frag} {C : Addr} {H H' : Hp} {p : Addr} {l : LineM} (x : LineAt K C H p l) (s : ExtT H H') (e : H' p = H p) : LineAt K C H' p l := by
  obtain ⟨dx, vw, vt, h1, h2, h3⟩ := x
  exact ⟨dx, vw, vt, e.trans h1, h2.keepT s (tOnly_strs _), h3.keepT s (tOnly_test _)⟩
theorem LineAt.same {K : PySem.W.Frag} {C : Addr} {H H' : Hp} {p : Addr} {l : LineM} (x : LineAt K C H p l) (s : Same H H') : LineAt K C H' p l := by
  obtain ⟨dx, vw, vt, h1, h2, h3⟩ := x
  exact ⟨dx, vw, vt, s _ _ h1, h2.keep s, h3.keep s⟩
def ifB : Stmt → List Stmt | .If _ b _ _ => b | _ => []
def nthS (l : List Stmt) (i : Nat) : Stmt := l.getD i (.Pass ⟨0, 0, 0, 0⟩)
section
variable {P : Program} {w : World} {K : PySem.W.Frag} {mg : Str → Option Value} {base : Heap}
/-- what the class Line wants and gives -/
structure LineC (P : Program) (w : World) (K : PySem.W.Frag) (mg : Str → Option Value) (base : Heap) (C : Addr) : Prop where
  t : ClsT K mg C "Line" lineNames
  mkr : ∃ fI fd, Mk K C fI ∧ FnOk P w K mg base CX0 1 fI fd ["self", "form", "words", "test"] (spLineI C) ∧ L2.Binds K fd ["self", "form", "words", "test"] []
def spLine (K : PySem.W.Frag) (C : Addr) : Sp := fun vs H Q _ => ∃ (text : Str) (b : Bool), vs = [.str text, .bl b] ∧ Asc text ∧ text.length ≤ 90000 ∧ (lineM text b = none → ∀ H', Same H H' → Q .non H') ∧
  ∀ l, lineM text b = some l → ∀ (p : Addr) (H' : Hp), H p = none → Same H H' → LineAt K C H' p l → Q (.ref p) H'
theorem scLine : FnScope ["text", "in_loop", "words", "test", "found"] ["text", "in_loop"] (defScope s_read_line) := ⟨rfl, rfl, rfl, by decide +kernel, rfl, by decide +kernel, by decide +kernel⟩
theorem ok_line {C : Addr} (R : Raw K mg "read_line" s_read_line ["text", "in_loop"]) (F0 : TopF K w mg) (LC : LineC P w K mg base C) (DT : Def P w K mg base CX0 "read_test" 6 ["words"] (spTest K)) (DF : Def P w K mg base CX0 "first_filled" 4 ["forms", "words"] (spFirst K)) : Def P w K mg base CX0 "read_line" 7 ["text", "in_loop"] (spLine K C) := by
  obtain ⟨aW, gW, hW⟩ := F0.writes
  obtain ⟨aO, gO, hO⟩ := F0.outer
  obtain ⟨aL, gL, hL⟩ := F0.loop
  obtain ⟨fT, dT, GT, gT, kT, bT⟩ := DT
  obtain ⟨fF, dF, GF, gF, kF, bF⟩ := DF
  obtain ⟨TL, fI, dI, M, GI, bI⟩ := LC
  refine R.def fun f fd F => F.ok scLine (fun vs H Q E h => ?_) (fun cdv A outer s H vs Q E hr h => ?_)
  · obtain ⟨text, b, rfl, _⟩ := h
    rfl
  · obtain ⟨text, b, rfl, ha, hlen, k0, k1⟩ := h
    have hr4 : Room 4 _ := hr.mono (by decide)
    have hr2 : Room (1 + 1) _ := hr.mono (by decide)
    obtain ⟨sp1, sp2, sp3⟩ := split_parts (sep := " ") ha (by decide +kernel)
    -- what both ways hand back
    have made : ∀ (H3 : Hp) (vw vt : V) (fo : Str) (l : LineM), Same H H3 → lineM text b = some l → l = mkLine fo l.words l.test → Dp K H3 vw (strsD l.words) → Dp K H3 vt (testD l.test) →
        ∀ x dx, H3 x = none → H3 dx = none → dx ≠ x → (spLineI C (.ref x :: ([V.str fo, vw, vt] ++ [])) (upd (upd H3 dx (.own x)) x (.ins C dx [])) (fun v H2 => v = .non ∧ Q (.ref x) H2) E) := fun H3 vw vt fo l s3 hl el dw dt x dx hx hdx hne => by
      refine ⟨x, dx, fo, vw, vt, rfl, upd_same, rfl, ?_⟩
      have st : Same H3 (upd (upd (upd H3 dx (.own x)) x (.ins C dx [])) x (.ins C dx (lnF fo vw vt 0 0 0 0 0 0))) := fun q o hq => by
        rw [upd_ne (ne_of_none hq hx), upd_ne (ne_of_none hq hx), upd_ne (ne_of_none hq hdx)]; exact hq
      have hx0 : H x = none := by
        cases e : H x with
        | none => rfl
        | some o => rw [s3 _ _ e] at hx; cases hx
      refine k1 l hl x _ hx0 (s3.trans st) ⟨dx, vw, vt, ?_, dw.keep st, dt.keep st⟩
      rw [upd_same, el]; rfl
    obtain ⟨tB, pB, qB⟩ : ∃ tB, PSs (cxOf CX0 P w K mg base ["text", "in_loop", "words", "test", "found"] "read_line" (defScope s_read_line) f cdv A outer s H E).nox (ifB (nthS (defBody s_read_line) 1)) tB ∧
        ∀ (p1 : Addr) (H1 : Hp) (D : Ends), D.rt = Q → SqL K H1 p1 ((Txt.split text " ").map V.str) → Same H H1 → lineM text b = ((testM ((Txt.split text " ").drop 1)).map fun t => mkLine ((Txt.split text " ").headD "") [] t) → tB D [some (.str text), some (.bl b), some (.ref p1), none, none] H1 := by
      refine ⟨_, pss_cons (ps_set (i := 3) scLine.nd rfl (Or.inl rfl) (pe_call GT hr (by rfl) gT kT bT .nil pass0 (pa_cons (pe_slice sl_list (pv 2) (po_some pe_int) po_none) pa_nil)))
        (pss_one (ps_ret (pe_ifExp (pt_cmpR op_isN (pv 3) pe_non (nomark _)) pe_non (pe_make M GI hr2 (by rfl) TL.gC bI .nil pass0 (pa_cons (pe_ix ix_list (pv 2) pe_int (fun _ _ => rfl)) (pa_cons (pe_tup pa_nil) (pa_cons (pv 3) pa_nil))))))), ?_⟩
      intro p1 H1 D hD sq s1 el
      generalize hws : Txt.split text " " = ws at *
      obtain ⟨h, r, rfl⟩ : ∃ h r, ws = h :: r := by
        cases ws with
        | nil => exact absurd sp3 (by decide)
        | cons h r => exact ⟨h, r, rfl⟩
      refine ⟨_, rfl, 1, rfl, p1, _, rfl, sq, fun p2 hp2 => ⟨p2, r, rfl, SqL.of (by rw [upd_same, cut_from]; rfl), fun x hx => (sp1 x (List.mem_cons_of_mem _ hx)).1, by rw [List.length_cons] at sp2; omega, fun v H2 s2 d2 => ?_⟩⟩
      have s02 := (s1.trans (same_upd hp2)).trans s2
      refine ⟨_, rfl, rfl, _, rfl, ?_⟩
      have el : lineM text b = (testM r).map fun t => mkLine h [] t := el
      cases ht : testM r with
      | none =>
        rw [ht] at d2 el
        cases d2
        refine ifT (by rfl) ?_
        rw [hD]
        exact k0 el _ s02
      | some t =>
        rw [ht] at d2 el
        obtain ⟨at_, vs, rfl, sqt, dpt⟩ := dp_tup d2
        refine ifF (by rfl) ⟨_, rfl, p1, _, 0, .str h, rfl, rfl, ((same_upd hp2).trans s2).seq sq, atI_nat (j := 0) rfl, (by show 0 ≤ sizeLine; decide), fun q hq => ⟨_, rfl, fun x dx hx hdx hne => ?_⟩⟩
        rw [hD]
        exact made _ (.ref q) (.ref at_) h _ (s02.trans (same_upd hq)) el rfl (.tup (SqT.of upd_same) .nil) (d2.keep (same_upd hq)) x dx hx hdx hne
    obtain ⟨tE, pE, qE⟩ : ∃ tE, PSs (cxOf CX0 P w K mg base ["text", "in_loop", "words", "test", "found"] "read_line" (defScope s_read_line) f cdv A outer s H E).nox ((defBody s_read_line).drop 3) tE ∧
        ∀ (p1 : Addr) (fs : List (Str × Str)) (v : V) (H3 : Hp), lineM text b = ((firstM fs (Txt.split text " ")).map fun p => mkLine p.1 p.2 []) → Same H H3 → Dp K H3 v (foundD (firstM fs (Txt.split text " "))) → tE { nx := fun _ H' => Q .non H', rt := Q } [some (.str text), some (.bl b), some (.ref p1), none, some v] H3 := by
      refine ⟨_, pss_one (ps_ret (pe_ifExp (pt_cmpR op_isN (pv 4) pe_non (nomark _)) pe_non (pe_make M GI hr2 (by rfl) TL.gC bI .nil pass0 (pa_cons (pe_ix ix_tup (pv 4) pe_int (fun _ _ => rfl)) (pa_cons (pe_ix ix_tup (pv 4) pe_int (fun _ _ => rfl)) (pa_cons (pe_tup pa_nil) pa_nil)))))), ?_⟩
      intro p1 fs v H3 el s3 d3
      refine ⟨_, rfl, rfl, _, rfl, ?_⟩
      cases hf : firstM fs (Txt.split text " ") with
      | none =>
        rw [hf] at d3 el
        cases d3
        exact ifT (by rfl) (k0 el _ s3)
      | some p =>
        rw [hf] at d3 el
        obtain ⟨t, vs, rfl, sqt, dt⟩ := dp_tup d3
        cases dt with
        | cons h1 dt => cases dt with
          | cons h2 dt =>
            cases dt
            cases dp_str h1
            refine ifF (by rfl) ⟨_, rfl, t, _, 0, _, rfl, rfl, sqt, rfl, _, rfl, t, _, 1, _, rfl, rfl, sqt, rfl, (by show 0 ≤ sizeLine; decide), fun q hq => ?_⟩
            intro x dx hx hdx hne
            exact made _ _ _ p.1 _ (s3.trans (same_upd hq)) el rfl (h2.keep (same_upd hq)) (.tup (SqT.of upd_same) .nil) x dx hx hdx hne
    obtain ⟨tR, pR, qR⟩ : ∃ tR, PSs (cxOf CX0 P w K mg base ["text", "in_loop", "words", "test", "found"] "read_line" (defScope s_read_line) f cdv A outer s H E).nox ((defBody s_read_line).drop 2) tR ∧
        ∀ (p1 : Addr) (H1 : Hp), SqL K H1 p1 ((Txt.split text " ").map V.str) → Same H H1 → lineM text b = ((firstM (WR ++ if b = true then LL else OL) (Txt.split text " ")).map fun p => mkLine p.1 p.2 []) → tR { nx := fun _ H' => Q .non H', rt := Q } [some (.str text), some (.bl b), some (.ref p1), none, none] H1 := by
      refine ⟨_, pss_cons (ps_set (i := 4) scLine.nd rfl (Or.inl rfl) (pe_call GF hr4 (by rfl) gF kF bF .nil pass0 (pa_cons (pe_op op_catA (pe_glob (v := .ref aW) (by rfl) gW rfl) (pe_ifExp (pt_val (pv 1)) (pe_glob (v := .ref aL) (by rfl) gL rfl) (pe_glob (v := .ref aO) (by rfl) gO rfl))) (pa_cons (pv 2) pa_nil)))) pE, ?_⟩
      intro p1 H1 sq s1 el
      have asc : ∀ x ∈ Txt.split text " ", Asc x := fun x hx => (sp1 x hx).1
      refine ⟨_, rfl, b, rfl, ?_⟩
      have eD : ∀ fs gs : List (Str × Str), formsD (fs ++ gs) = .tuple ((fs.map fun p => PyData.tuple [.str p.1, .str p.2]) ++ gs.map fun p => PyData.tuple [.str p.1, .str p.2]) := fun fs gs => by unfold formsD; rw [List.map_append]
      cases b with
      | true =>
        refine iteT ?_
        unfold tC
        refine catA_ok (hW H1) (hL H1) (by rw [List.length_map, List.length_map]; decide) fun v H2 s2 d2 => ?_
        rw [← eD] at d2
        exact ⟨_, rfl, v, WR ++ LL, p1, _, rfl, d2, forms_short.2.2, s2.seq sq, asc, by omega, fun v' H3 s3 d3 => qE p1 (WR ++ LL) v' H3 el ((s1.trans s2).trans s3) d3⟩
      | false =>
        refine iteF ?_
        unfold tC
        refine catA_ok (hW H1) (hO H1) (by rw [List.length_map, List.length_map]; decide) fun v H2 s2 d2 => ?_
        rw [← eD] at d2
        exact ⟨_, rfl, v, WR ++ OL, p1, _, rfl, d2, forms_short.2.1, s2.seq sq, asc, by omega, fun v' H3 s3 d3 => qE p1 (WR ++ OL) v' H3 el ((s1.trans s2).trans s3) d3⟩
    refine ⟨_, pss_cons (ps_set (i := 2) scLine.nd rfl (Or.inl rfl) (pe_split (pv 0) pe_str))
      (pss_cons (ps_if (PW.pt (pw_or (pt_cmpR op_eq (pe_ix ix_list (pv 2) pe_int (fun _ _ => rfl)) pe_str (nomark _)) (pw_or1 (PW.pt (pw_and (pt_cmpR op_eq (pe_ix ix_list (pv 2) pe_int (fun _ _ => rfl)) pe_str (nomark _)) (pw_and1 (pt_not (pt_val (pv 1)))))))))
        pB pss_nil) pR), ?_⟩
    refine ⟨_, rfl, ⟨_, rfl⟩, text, " ", rfl, rfl, by decide, by rw [sizeLine_eq]; omega, fun p1 hp1 => ?_⟩
    have s1 := same_upd (o := .lst ((Txt.split text " ").map V.str)) hp1
    have sq : SqL K (upd H p1 (.lst ((Txt.split text " ").map V.str))) p1 ((Txt.split text " ").map V.str) := SqL.of upd_same
    obtain ⟨h, r, hws⟩ : ∃ h r, Txt.split text " " = h :: r := by
      cases e : Txt.split text " " with
      | nil => rw [e] at sp3; exact absurd sp3 (by decide)
      | cons h r => exact ⟨h, r, rfl⟩
    have at0 : atI ((Txt.split text " ").map V.str) 0 = some (V.str h) := by rw [hws]; exact atI_nat (j := 0) rfl
    have hd : (Txt.split text " ").headD "" = h := by rw [hws]; rfl
    have eM : lineM text b = if h = "if" ∨ (h = "walk" ∧ b = false) then ((testM ((Txt.split text " ").drop 1)).map fun t => mkLine ((Txt.split text " ").headD "") [] t) else ((firstM (WR ++ if b = true then LL else OL) (Txt.split text " ")).map fun p => mkLine p.1 p.2 []) := by
      unfold lineM
      dsimp only
      rw [hd]
    refine ⟨_, rfl, p1, _, 0, .str h, rfl, rfl, sq, at0, rfl, _, rfl, ?_⟩
    by_cases c1 : h = "if"
    · rw [if_pos (.inl c1)] at eM
      exact ifT (decide_eq_true (congrArg V.str c1)) (iteT (qB p1 _ _ rfl sq s1 eM))
    · refine ifF (decide_eq_false fun z => c1 (V.str.inj z)) ⟨_, rfl, p1, _, 0, .str h, rfl, rfl, sq, at0, rfl, _, rfl, ?_⟩
      by_cases c2 : h = "walk"
      · refine ifT (decide_eq_true (congrArg V.str c2)) ⟨_, rfl, b, rfl, ?_⟩
        cases b with
        | false =>
          rw [if_pos (.inr ⟨c2, rfl⟩)] at eM
          exact iteT (qB p1 _ _ rfl sq s1 eM)
        | true =>
          rw [if_neg (by rintro (z | z); exact c1 z; cases z.2)] at eM
          exact iteF (qR p1 _ sq s1 eM)
      · rw [if_neg (by rintro (z | z); exact c1 z; exact c2 z.1)] at eM
        exact ifF (decide_eq_false fun z => c2 (V.str.inj z)) (iteF (qR p1 _ sq s1 eM))
end
end K40

/-! ## The lines of a code, read and linked -/
namespace Fm
open PySem PySem.Spec PyProof.Rows L2
def noLine : LineM := mkLine "" [] []
def lineAt (Ls : List LineM) (n : Nat) : LineM := Ls.getD (n - 1) noLine
def aroundM (Ls : List LineM) : List Nat → Nat
  | [] => 0
  | n :: r => if (lineAt Ls n).form = "walk" then n else aroundM Ls r
def turnM (word : Str) (n : Nat) (Ls : List LineM) (op : List Nat) : Option (List LineM × LineM) :=
  match op.getLast? with
  | none => none
  | some k =>
    if word = "end" then some (Ls.set (k - 1) { lineAt Ls k with ending := n }, { mkLine word [] [] with opener := k })
    else if (lineAt Ls k).form = "if" ∧ (lineAt Ls k).turn = 0 then some (Ls.set (k - 1) { lineAt Ls k with turn := n }, { mkLine word [] [] with opener := k })
    else none
def isTurn (text : Str) : Bool := inV (.str text) [.str "else", .str "end"]
def oneM (text : Str) (n : Nat) (Ls : List LineM) (op : List Nat) : Option (List LineM × LineM) :=
  if isTurn text = true then turnM text n Ls op else (lineM text (decide (aroundM Ls op ≠ 0))).map fun l => (Ls, l)
def opensM (f : Str) : Bool := inV (.str f) [.str "if", .str "walk"]
def openedM (f : Str) (n : Nat) (op : List Nat) : List Nat := if f = "end" then op.dropLast else if opensM f = true then op ++ [n] else op
def stepM (text : Str) (n : Nat) (Ls : List LineM) (op : List Nat) : Option (List LineM × List Nat) :=
  match oneM text n Ls op with
  | none => none
  | some q => some (q.1 ++ [{ q.2 with loop := aroundM Ls op }], openedM q.2.form n op)
def goM : List Str → Nat → List LineM → List Nat → Except Nat (List LineM × List Nat)
  | [], _, Ls, op => .ok (Ls, op)
  | t :: r, n, Ls, op => match stepM t n Ls op with
    | none => .error n
    | some q => goM r (n + 1) q.1 q.2
def linesM (texts : List Str) : Except Nat (List LineM) :=
  match goM texts 1 [] [] with
  | .error n => .error n
  | .ok q => if q.2.length > 0 then .error (texts.length + 1) else .ok q.1
/-- where a play lands; none: not within so many steps, or out of the lines -/
def landM : Nat → List LineM → Nat → Option Nat
  | 0, _, _ => none
  | k + 1, Ls, n =>
    if n = 0 then none
    else if n ≤ Ls.length ∧ isTurn (lineAt Ls n).form = true then
      (if 1 ≤ (lineAt Ls n).opener ∧ (lineAt Ls n).opener ≤ Ls.length then
        (if (lineAt Ls (lineAt Ls n).opener).form = "walk" then some (lineAt Ls n).opener
        else landM k Ls ((lineAt Ls (lineAt Ls n).opener).ending + 1))
      else none)
    else some n
def linkM (k : Nat) (Ls : List LineM) (n : Nat) : Option (List LineM) :=
  let l := lineAt Ls n
  match landM k Ls (n + 1) with
  | none => none
  | some t =>
    if l.form = "quit" then some (Ls.set (n - 1) { l with thn := Ls.length + 1 })
    else if l.form = "stop" then
      (if 1 ≤ l.loop ∧ l.loop ≤ Ls.length then (landM k Ls ((lineAt Ls l.loop).ending + 1)).map fun u => Ls.set (n - 1) { l with thn := u } else none)
    else if l.form = "walk" then (landM k Ls (l.ending + 1)).map fun u => Ls.set (n - 1) { l with thn := t, oth := u }
    else if l.form = "if" then (landM k Ls (if l.turn = 0 then l.ending else l.turn + 1)).map fun u => Ls.set (n - 1) { l with thn := t, oth := u }
    else some (Ls.set (n - 1) { l with thn := t })
def linkAll (k : Nat) : Nat → Nat → List LineM → Option (List LineM)
  | 0, _, Ls => some Ls
  | m + 1, n, Ls => match linkM k Ls n with | none => none | some Ls' => linkAll k m (n + 1) Ls'
def programM (k : Nat) (texts : List Str) : Option (Except Nat (List LineM)) :=
  match linesM texts with
  | .error n => some (.error n)
  | .ok Ls => (linkAll k Ls.length 1 Ls).map .ok
def Tx (s : String) : List Str := Txt.split s "\n"
example : (programM 100 (Tx "at = first\nwalk not at is empty\nif at is key\nkeep out\nstop\nend\ngo\nend")).isSome = true := by decide +kernel
example : (match programM 100 (Tx "at = first\nwalk not at is empty\nif at is key\nkeep out\nstop\nend\ngo\nend") with | some (.ok Ls) => Ls.map (fun l => (l.thn, l.oth)) | _ => []) = [(2, 0), (3, 9), (4, 7), (5, 0), (9, 0), (7, 0), (2, 0), (9, 0)] := by decide +kernel
end Fm

namespace K40
open PySem PySem.Spec PyProof.Rows L2 Fm PySem.RingX
/-- the lines' objects -/
structure Objs (K : PySem.W.Frag) (C : Addr) (H : Hp) (ps : List Addr) (Ls : List LineM) : Prop where
  len : ps.length = Ls.length
  each : ∀ (i : Nat) (p : Addr) (l : LineM), ps[i]? = some p → Ls[i]? = some l → LineAt K C H p l
  nd : ps.Nodup
section
variable {K : PySem.W.Frag} {C : Addr} {H H' : Hp} {ps : List Addr} {Ls : List LineM}
theorem Objs.at_ (x : Objs K C H ps Ls) {n : Nat} (h1 : 1 ≤ n) (h2 : n ≤ Ls.length) : ∃ p, ps[n - 1]? = some p ∧ p ∈ ps ∧ LineAt K C H p (lineAt Ls n) := by
  have hi : n - 1 < ps.length := by rw [x.len]; omega
  have hl : n - 1 < Ls.length := by omega
  refine ⟨ps[n - 1], List.getElem?_eq_getElem hi, List.getElem_mem hi, x.each (n - 1) _ _ (List.getElem?_eq_getElem hi) ?_⟩
  unfold lineAt
  rw [List.getD_eq_getElem?_getD, List.getElem?_eq_getElem hl]; rfl
theorem Objs.same (x : Objs K C H ps Ls) (s : Same H H') : Objs K C H' ps Ls := ⟨x.len, fun i p l h1 h2 => (x.each i p l h1 h2).same s, x.nd⟩
theorem Objs.ins (x : Objs K C H ps Ls) {p : Addr} (h : p ∈ ps) : ∃ dx fs, H p = some (.ins C dx fs) := by
  obtain ⟨i, hi, e⟩ := List.getElem_of_mem h
  obtain ⟨dx, _, _, h1, _⟩ := x.each i p (Ls[i]'(by rw [← x.len]; exact hi)) (by rw [List.getElem?_eq_getElem hi, e]) (List.getElem?_eq_getElem _)
  exact ⟨dx, _, h1⟩
theorem Objs.off (x : Objs K C H ps Ls) {p : Addr} (h : H p = none) : p ∉ ps := fun m => by
  obtain ⟨_, _, e⟩ := x.ins m
  rw [e] at h; cases h
theorem Objs.offL (x : Objs K C H ps Ls) {p : Addr} {xs : List V} (h : H p = some (.lst xs)) : p ∉ ps := fun m => by
  obtain ⟨_, _, e⟩ := x.ins m
  rw [e] at h; cases h
/-- a change elsewhere -/
theorem Objs.keep (x : Objs K C H ps Ls) (s : ExtT H H') (e : ∀ p ∈ ps, H' p = H p) : Objs K C H' ps Ls := ⟨x.len, fun i p l h1 h2 => (x.each i p l h1 h2).keep s (e p (List.mem_of_getElem? h1)), x.nd⟩
theorem Objs.updL (x : Objs K C H ps Ls) {p : Addr} {xs : List V} {o : HO} (h : H p = some (.lst xs)) : Objs K C (upd H p o) ps Ls := x.keep (ExtT.lst h) fun q hq => upd_ne fun e => x.offL h (e ▸ hq)
/-- one line is changed -/
theorem Objs.set {n : Nat} {p dx : Addr} {vw vt : V} {l : LineM} (x : Objs K C H ps Ls) (h1 : 1 ≤ n) (h2 : n ≤ Ls.length) (hp : ps[n - 1]? = some p)
    (hw : Dp K H vw (strsD l.words)) (ht : Dp K H vt (testD l.test)) : Objs K C (upd H p (.ins C dx (lnF l.form vw vt l.loop l.opener l.turn l.ending l.thn l.oth))) ps (Ls.set (n - 1) l) := by
  obtain ⟨dx0, fs0, hi⟩ := x.ins (List.mem_of_getElem? hp)
  have ext : ExtT H (upd H p (.ins C dx (lnF l.form vw vt l.loop l.opener l.turn l.ending l.thn l.oth))) := ExtT.ins hi
  refine ⟨by rw [List.length_set]; exact x.len, fun i q m g1 g2 => ?_, x.nd⟩
  by_cases c : i = n - 1
  · subst c
    rw [hp] at g1
    cases g1
    rw [List.getElem?_set_self (by omega)] at g2
    cases g2
    exact ⟨dx, vw, vt, upd_same, hw.keepT ext (tOnly_strs _), ht.keepT ext (tOnly_test _)⟩
  · rw [List.getElem?_set_ne (Ne.symm c)] at g2
    have qp : q ≠ p := fun z => by
      subst z
      have i1 := (List.getElem?_eq_some_iff.mp g1).1
      have i2 := (List.getElem?_eq_some_iff.mp hp).1
      have e1 := (List.getElem?_eq_some_iff.mp g1).2
      have e2 := (List.getElem?_eq_some_iff.mp hp).2
      exact c ((List.getElem_inj x.nd).mp (e1.trans e2.symm))
    exact (x.each i q m g1 g2).keep ext (upd_ne qp)
/-- a line more -/
theorem Objs.snoc {p : Addr} {l : LineM} (x : Objs K C H ps Ls) (h : LineAt K C H p l) (n : p ∉ ps) : Objs K C H (ps ++ [p]) (Ls ++ [l]) := by
  refine ⟨by rw [List.length_append, List.length_append, x.len]; rfl, fun i q m g1 g2 => ?_, List.nodup_append.mpr ⟨x.nd, by simp, fun a ha b hb => by rw [show b = p by simpa using hb]; exact fun e => n (e ▸ ha)⟩⟩
  rcases Nat.lt_or_ge i ps.length with c | c
  · rw [List.getElem?_append_left c] at g1
    rw [List.getElem?_append_left (by rw [← x.len]; exact c)] at g2
    exact x.each i q m g1 g2
  · rw [List.getElem?_append_right c] at g1
    rw [List.getElem?_append_right (by rw [← x.len]; exact c), ← x.len] at g2
    cases e : i - ps.length with
    | zero =>
      rw [e] at g1 g2
      cases g1; cases g2
      exact h
    | succ k => rw [e] at g1; cases g1
end
/-- all that is no line stands as before -/
def OffL (ps : List Addr) (H H' : Hp) : Prop := ∀ b u, b ∉ ps → H b = some u → H' b = some u
theorem OffL.refl (ps : List Addr) (H : Hp) : OffL ps H H := fun _ _ _ h => h
theorem OffL.of {ps : List Addr} {H H' : Hp} (s : Same H H') : OffL ps H H' := fun b u _ h => s b u h
theorem OffL.trans {ps : List Addr} {H H1 H2 : Hp} (x : OffL ps H H1) (y : OffL ps H1 H2) : OffL ps H H2 := fun b u n h => y b u n (x b u n h)
theorem OffL.upd {ps : List Addr} {H H1 : Hp} {p : Addr} {o : HO} (x : OffL ps H H1) (h : p ∈ ps) : OffL ps H (L2.upd H1 p o) := fun b u n e => by
  rw [upd_ne (fun z : b = p => n (by rw [z]; exact h))]; exact x b u n e
theorem OffL.new {ps : List Addr} {H H1 : Hp} {p : Addr} {o : HO} (x : OffL ps H H1) (h : H1 p = none) : OffL ps H (L2.upd H1 p o) := fun b u n e => by
  rw [upd_ne (ne_of_none (x b u n e) h)]; exact x b u n e
section
variable {P : Program} {w : World} {K : PySem.W.Frag} {mg : Str → Option Value} {base : Heap}
def spAround (K : PySem.W.Frag) (C : Addr) : Sp := fun vs H Q _ => ∃ (l o : Addr) (ps : List Addr) (Ls : List LineM) (op : List Nat), vs = [.ref l, .ref o] ∧ SqL K H l (ps.map V.ref) ∧ Objs K C H ps Ls ∧ SqL K H o (op.map fun n : Nat => V.int n) ∧ (∀ n ∈ op, 1 ≤ n ∧ n ≤ Ls.length) ∧ Q (.int (aroundM Ls op)) H
theorem scAround : FnScope ["lines", "opened", "number"] ["lines", "opened"] (defScope s_loop_around) := ⟨rfl, rfl, rfl, by decide +kernel, rfl, by decide +kernel, by decide +kernel⟩
theorem around_at {Ls : List LineM} {op : List Nat} {i n : Nat} (h : op[i]? = some n) : aroundM Ls (op.drop i) = if (lineAt Ls n).form = "walk" then n else aroundM Ls (op.drop (i + 1)) := by
  obtain ⟨hi, e⟩ := List.getElem?_eq_some_iff.mp h
  rw [List.drop_eq_getElem_cons hi, e]; rfl
theorem ok_around {C : Addr} (R : Raw K mg "loop_around" s_loop_around ["lines", "opened"]) (TL : ClsT K mg C "Line" lineNames) : Def P w K mg base CX0 "loop_around" 1 ["lines", "opened"] (spAround K C) := by
  refine R.def fun f fd F => F.ok scAround (fun vs H Q E h => ?_) (fun cdv A outer s H vs Q E hr h => ?_)
  · obtain ⟨l, o, ps, Ls, op, rfl, _⟩ := h
    rfl
  · obtain ⟨l, o, ps, Ls, op, rfl, sl, ob, so, hop, k⟩ := h
    refine ⟨_, pss_cons (ps_for PassesOwn.never rfl (pi_list (pv 1)) (pg_name (i := 2) scAround.nd rfl (Or.inl rfl))
        (pss_one (ps_if (pt_cmpR op_eq (pe_fld (pe_ix ix_list (pv 0) (pe_op op_sub (pv 2) pe_int) (fun _ _ => rfl)) rfl) pe_str (nomark _)) (pss_one (ps_ret (pv 2))) pss_nil)))
      (pss_one (ps_ret pe_int)), ?_⟩
    refine ⟨_, rfl, o, rfl, ⟨_, so⟩, for_list (K := K) (a := o) (xs := op.map fun n : Nat => V.int n) (fun i σ H' => (∃ x2, σ = [some (.ref l), some (.ref o), x2]) ∧ H' = H ∧ aroundM Ls op = aroundM Ls (op.drop i)) ⟨⟨_, rfl⟩, rfl, rfl⟩ (fun i σ H' _ h => by rw [h.2.1]; exact so) ?_ ?_⟩
    · rintro i x σ H' hx ⟨⟨x2, rfl⟩, rfl, e1⟩
      rw [List.getElem?_map] at hx
      obtain ⟨n, hn, rfl⟩ := Option.map_eq_some_iff.mp hx
      obtain ⟨b1, b2⟩ := hop n (List.mem_of_getElem? hn)
      obtain ⟨p, hp, _, dx, vw, vt, hl, _⟩ := ob.at_ b1 b2
      have e2 := e1.trans (around_at hn)
      refine ⟨_, rfl, _, rfl, _, _, rfl, rfl, l, _, _, .ref p, rfl, rfl, sl, ?_, p, C, dx, _, _, rfl, hl, TL.cl, TL.no _ (by simp [lineNames]), ln_form .., rfl, _, rfl, ?_⟩
      · rw [show (n : Int) - 1 = ((n - 1 : Nat) : Int) by omega]
        exact atI_nat (by rw [List.getElem?_map, hp]; rfl)
      · by_cases c : (lineAt Ls n).form = "walk"
        · rw [if_pos c] at e2
          rw [e2] at k
          exact ifT (decide_eq_true (congrArg V.str c)) ⟨_, rfl, k⟩
        · rw [if_neg c] at e2
          exact ifF (decide_eq_false fun z => c (V.str.inj z)) ⟨⟨_, rfl⟩, rfl, e2⟩
    · rintro σ H' ⟨⟨x2, rfl⟩, rfl, e1⟩
      rw [List.length_map, List.drop_length] at e1
      rw [e1] at k
      exact k
end
end K40

namespace K40
open PySem PySem.Spec PyProof.Rows L2 Fm PySem.RingX
theorem ln_small {f : Str} {vw vt : V} {lo op tu en th ot : Int} : (lnF f vw vt lo op tu en th ot).length < 1000 := by show 9 < 1000; decide
theorem OffL.ext {K : PySem.W.Frag} {C : Addr} {ps : List Addr} {H H' : Hp} {Ls : List LineM} (x : OffL ps H H') (o : Objs K C H ps Ls) : ExtT H H' := fun q u hu hq => by
  refine x q u (fun m => ?_) hq
  obtain ⟨dx, fs, e⟩ := o.ins m
  rw [hq] at e
  cases e
  rcases hu with ⟨_, z⟩ | ⟨_, _, z⟩ <;> cases z
theorem OffL.seqL {K : PySem.W.Frag} {C : Addr} {ps : List Addr} {H H' : Hp} {Ls : List LineM} {a : Addr} {xs : List V} (x : OffL ps H H') (o : Objs K C H ps Ls) (q : SqL K H a xs) : SqL K H' a xs := by
  have no : ∀ u, H a = some u → (∀ C dx fs, u ≠ .ins C dx fs) → a ∉ ps := fun u e n m => by
    obtain ⟨dx, fs, e2⟩ := o.ins m
    rw [e] at e2
    exact n _ _ _ (Option.some.inj e2)
  rcases q with (q | ⟨u, q⟩) | q
  · exact .inl (.inl (x _ _ (no _ q fun _ _ _ z => nomatch z) q))
  · exact .inl (.inr ⟨u, x _ _ (no _ q fun _ _ _ z => nomatch z) q⟩)
  · exact .inr q
section
variable {P : Program} {w : World} {K : PySem.W.Frag} {mg : Str → Option Value} {base : Heap}
def spTurn (K : PySem.W.Frag) (C : Addr) : Sp := fun vs H Q _ => ∃ (word : Str) (n : Nat) (l o : Addr) (ps : List Addr) (Ls : List LineM) (op : List Nat), vs = [.str word, .int n, .ref l, .ref o] ∧ SqL K H l (ps.map V.ref) ∧ Objs K C H ps Ls ∧ SqL K H o (op.map fun n : Nat => V.int n) ∧ (∀ n ∈ op, 1 ≤ n ∧ n ≤ Ls.length) ∧
  (turnM word n Ls op = none → Q .non H) ∧ ∀ Ls' ln, turnM word n Ls op = some (Ls', ln) → ∀ (p : Addr) (H' : Hp), H p = none → OffL ps H H' → Objs K C H' ps Ls' → LineAt K C H' p ln → Q (.ref p) H'
theorem scTurn : FnScope ["word", "number", "lines", "opened", "opener", "line"] ["word", "number", "lines", "opened"] (defScope s_read_turn) := ⟨rfl, rfl, rfl, by decide +kernel, rfl, by decide +kernel, by decide +kernel⟩
theorem ok_turn {C : Addr} (R : Raw K mg "read_turn" s_read_turn ["word", "number", "lines", "opened"]) (T : GB mg) (LC : LineC P w K mg base C) : Def P w K mg base CX0 "read_turn" 3 ["word", "number", "lines", "opened"] (spTurn K C) := by
  obtain ⟨TL, fI, dI, M, GI, bI⟩ := LC
  refine R.def fun f fd F => F.ok scTurn (fun vs H Q E h => ?_) (fun cdv A outer s H vs Q E hr h => ?_)
  · obtain ⟨word, n, l, o, ps, Ls, op, rfl, _⟩ := h
    rfl
  · obtain ⟨word, n, l, o, ps, Ls, op, rfl, sl, ob, so, hop, k0, k1⟩ := h
    obtain ⟨tR, pR, qR⟩ : ∃ tR, PSs (cxOf CX0 P w K mg base ["word", "number", "lines", "opened", "opener", "line"] "read_turn" (defScope s_read_turn) f cdv A outer s H E).nox ((defBody s_read_turn).drop 3) tR ∧
        ∀ (v4 : Option V) (H1 : Hp) (k : Nat) (Ls' : List LineM), op.getLast? = some k → OffL ps H H1 → Objs K C H1 ps Ls' → turnM word n Ls op = some (Ls', { mkLine word [] [] with opener := k }) → tR { nx := fun _ H' => Q .non H', rt := Q } [some (.str word), some (.int n), some (.ref l), some (.ref o), v4, none] H1 := by
      refine ⟨_, pss_cons (ps_set (i := 5) scTurn.nd rfl (Or.inl rfl) (pe_make M GI hr (by rfl) TL.gC bI .nil pass0 (pa_cons (pv 0) (pa_cons (pe_tup pa_nil) (pa_cons (pe_tup pa_nil) pa_nil)))))
        (pss_cons (ps_fld (pv 5) (pe_ix ix_list (pv 3) (pe_un un_neg pe_int) (fun _ _ => rfl)) rfl)
        (pss_one (ps_ret (pv 5)))), ?_⟩
      intro v4 H1 k Ls' hk off ob1 eT
      refine ⟨_, rfl, (by show 0 ≤ sizeLine; decide), fun q1 hq1 => ⟨(by show 0 ≤ sizeLine; decide), fun q2 hq2 => ?_⟩⟩
      intro x dx hx hdx hne
      have s1 := same_upd (o := .tup []) hq1
      have s2 := same_upd (o := .tup []) hq2
      have dw : Dp K (upd (upd H1 q1 (.tup [])) q2 (.tup [])) (.ref q1) (strsD []) := .tup (SqT.of (s2 _ _ upd_same)) .nil
      have dt : Dp K (upd (upd H1 q1 (.tup [])) q2 (.tup [])) (.ref q2) (testD []) := .tup (SqT.of upd_same) .nil
      refine ⟨x, dx, word, .ref q1, .ref q2, rfl, upd_same, rfl, ?_⟩
      have sm : ∀ fs, Same (upd (upd H1 q1 (.tup [])) q2 (.tup [])) (upd (upd (upd (upd (upd H1 q1 (.tup [])) q2 (.tup [])) dx (.own x)) x (.ins C dx [])) x (.ins C dx fs)) := fun fs b u hb => by
        rw [upd_ne (ne_of_none hb hx), upd_ne (ne_of_none hb hx), upd_ne (ne_of_none hb hdx)]; exact hb
      have so1 : SqL K (upd (upd (upd (upd (upd H1 q1 (.tup [])) q2 (.tup [])) dx (.own x)) x (.ins C dx [])) x (.ins C dx (lnF word (.ref q1) (.ref q2) 0 0 0 0 0 0))) o (op.map fun n : Nat => V.int n) := ((s1.trans s2).trans (sm _)).seq (off.seqL ob so)
      obtain ⟨op', eop⟩ := List.getLast?_eq_some_iff.mp hk
      refine ⟨_, rfl, _, rfl, o, _, -1, .int k, rfl, rfl, so1, by rw [eop, List.map_append]; exact atI_last _ _, _, rfl, x, C, dx, _, rfl, upd_same, TL.cl, TL.no _ (by simp [lineNames]), ln_small, _, rfl, ?_⟩
      rw [lp_opener, upd_upd]
      have hx1 : H1 x = none := by
        cases e : H1 x with
        | none => rfl
        | some u => rw [s2 _ _ (s1 _ _ e)] at hx; cases hx
      have smF : Same H1 (upd (upd (upd (upd (upd H1 q1 (.tup [])) q2 (.tup [])) dx (.own x)) x (.ins C dx [])) x (.ins C dx (lnF word (.ref q1) (.ref q2) 0 k 0 0 0 0))) := (s1.trans s2).trans (sm _)
      have hx0 : H x = none := by
        cases e : H x with
        | none => rfl
        | some u =>
          by_cases m : x ∈ ps
          · obtain ⟨_, _, e2⟩ := ob1.ins m
            rw [hx1] at e2; cases e2
          · rw [off x u m e] at hx1; cases hx1
      exact k1 Ls' _ eT x _ hx0 (off.trans (OffL.of smF)) (ob1.same smF) ⟨dx, .ref q1, .ref q2, by rw [upd_same]; rfl, dw.keep (sm _), dt.keep (sm _)⟩
    refine ⟨_, pss_cons (ps_if (pt_cmpR op_eq (pe_callB call_len_seq (by rfl) T.len PySem.boot_len (pa_cons (pv 3) pa_nil)) pe_int (nomark _)) (pss_one (ps_ret pe_non)) pss_nil)
      (pss_cons (ps_set (i := 4) scTurn.nd rfl (Or.inl rfl) (pe_ix ix_list (pv 2) (pe_op op_sub (pe_ix ix_list (pv 3) (pe_un un_neg pe_int) (fun _ _ => rfl)) pe_int) (fun _ _ => rfl)))
      (pss_cons (ps_if (pt_cmpR op_eq (pv 0) pe_str (nomark _)) (pss_one (ps_fld (pv 4) (pv 1) rfl))
        (pss_one (ps_if (PW.pt (pw_and (pt_cmpR op_eq (pe_fld (pv 4) rfl) pe_str (nomark _)) (pw_and1 (pt_cmpR op_eq (pe_fld (pv 4) rfl) pe_int (nomark _))))) (pss_one (ps_fld (pv 4) (pv 1) rfl)) (pss_one (ps_ret pe_non))))) pR)), ?_⟩
    refine ⟨_, rfl, o, _, rfl, .inl so, rfl, _, rfl, ?_⟩
    rw [List.length_map]
    cases hk : op.getLast? with
    | none =>
      have e0 : op = [] := List.getLast?_eq_none_iff.mp hk
      subst e0
      refine ifT (by decide) (k0 ?_)
      unfold turnM
      rw [hk]
    | some k =>
      obtain ⟨op', eop⟩ := List.getLast?_eq_some_iff.mp hk
      have hk1 := hop k (by rw [eop]; simp)
      obtain ⟨p, hp, pm, dx, vw, vt, hl, dw, dt⟩ := ob.at_ hk1.1 hk1.2
      refine ifF (decide_eq_false fun z => ?_) ?_
      · have := V.int.inj z
        rw [eop, List.length_append] at this
        simp at this
        omega
      refine ⟨_, rfl, _, rfl, _, rfl, o, _, -1, .int k, rfl, rfl, so, by rw [eop, List.map_append]; exact atI_last _ _, _, _, rfl, rfl, l, _, _, .ref p, rfl, rfl, sl, ?_, ?_⟩
      · rw [show (k : Int) - 1 = ((k - 1 : Nat) : Int) by omega]
        exact atI_nat (by rw [List.getElem?_map, hp]; rfl)
      have eT : turnM word n Ls op = if word = "end" then some (Ls.set (k - 1) { lineAt Ls k with ending := n }, { mkLine word [] [] with opener := k })
        else if (lineAt Ls k).form = "if" ∧ (lineAt Ls k).turn = 0 then some (Ls.set (k - 1) { lineAt Ls k with turn := n }, { mkLine word [] [] with opener := k })
        else none := by
        unfold turnM
        rw [hk]
      refine ⟨_, rfl, rfl, _, rfl, ?_⟩
      by_cases c1 : word = "end"
      · rw [if_pos c1] at eT
        refine ifT (decide_eq_true (congrArg V.str c1)) ⟨_, rfl, _, rfl, p, C, dx, _, rfl, hl, TL.cl, TL.no _ (by simp [lineNames]), ln_small, ?_⟩
        rw [lp_ending]
        exact qR _ _ k _ hk ((OffL.refl ps H).upd pm) (ob.set (l := { lineAt Ls k with ending := n }) hk1.1 hk1.2 hp dw dt) eT
      · rw [if_neg c1] at eT
        refine ifF (decide_eq_false fun z => c1 (V.str.inj z)) ⟨_, rfl, p, C, dx, _, _, rfl, hl, TL.cl, TL.no _ (by simp [lineNames]), ln_form .., rfl, _, rfl, ?_⟩
        by_cases c2 : (lineAt Ls k).form = "if"
        · refine ifT (decide_eq_true (congrArg V.str c2)) ⟨_, rfl, p, C, dx, _, _, rfl, hl, TL.cl, TL.no _ (by simp [lineNames]), ln_turn .., rfl, _, rfl, ?_⟩
          by_cases c3 : (lineAt Ls k).turn = 0
          · rw [if_pos ⟨c2, c3⟩] at eT
            refine ifT (decide_eq_true (by rw [c3]; rfl)) ⟨_, rfl, _, rfl, p, C, dx, _, rfl, hl, TL.cl, TL.no _ (by simp [lineNames]), ln_small, ?_⟩
            rw [lp_turn]
            exact qR _ _ k _ hk ((OffL.refl ps H).upd pm) (ob.set (l := { lineAt Ls k with turn := n }) hk1.1 hk1.2 hp dw dt) eT
          · rw [if_neg (fun z => c3 z.2)] at eT
            exact ifF (decide_eq_false fun z => c3 (by have := V.int.inj z; omega)) (k0 eT)
        · rw [if_neg (fun z => c2 z.1)] at eT
          exact ifF (decide_eq_false fun z => c2 (V.str.inj z)) (iteF (k0 eT))
end
end K40

namespace L2
open PySem PySem.Spec PyProof.Rows
theorem for_enumS {K : PySem.W.Frag} {a : Addr} {k : Int} {xs : List V} {g : TG} {tb : TS} {D : Ends} {σ : L2.St} {H : Hp} (Pv : Nat → L2.St → Hp → Prop) (h0 : Pv 0 σ H) (hl : ∀ i σ H, i ≤ xs.length → Pv i σ H → SqL K H a xs)
    (hs : ∀ i x T σ H, xs[i]? = some x → Pv i σ H → H T = none → g (.ref T) σ (upd H T (.tup [.int (k + (i : Nat)), x])) fun σ2 H2 => tb { D with nx := Pv (i + 1), ct := Pv (i + 1), bk := D.nx } σ2 H2) (hd : ∀ σ H, Pv xs.length σ H → D.nx σ H) :
    ∃ W : Nat → Nat → L2.St → Hp → Prop, (∃ m, W 0 m σ H) ∧ ∀ i m σ H, W i m σ H →
      ((IteS K a k).stop i H ∧ D.nx σ H) ∨ ((IteS K a k).go i H ∧ ∃ N : L2.St → Hp → Prop, (∀ σ' H', N σ' H' → ∃ m', m' < m ∧ W (i + 1) m' σ' H') ∧ ∀ x H', (IteS K a k).yld i H x H' → g x σ H' fun σ2 H2 => tb { D with nx := N, ct := N, bk := D.nx } σ2 H2) := by
  refine ⟨fun i m σ H => m = xs.length - i ∧ i ≤ xs.length ∧ Pv i σ H, ⟨xs.length, by simp, Nat.zero_le _, h0⟩, ?_⟩
  rintro i m σ H ⟨rfl, hi, p⟩
  have q := hl i σ H hi p
  by_cases hlt : i < xs.length
  · refine .inr ⟨⟨xs, xs[i], q, by simp [hlt]⟩, Pv (i + 1), fun σ' H' p' => ⟨xs.length - (i + 1), by omega, rfl, hlt, p'⟩, fun x H' y => ?_⟩
    obtain ⟨T, v, rfl, hT, rfl, y⟩ := y
    exact hs i v T σ H (y xs q) p hT
  · have e : i = xs.length := by omega
    subst e
    exact .inl ⟨⟨xs, q, Nat.le_refl _⟩, hd σ H p⟩
end L2
namespace K40
open PySem PySem.Spec PyProof.Rows L2 Fm PySem.RingX
/-- the errors of codes -/
structure EXC (P : Program) (K : PySem.W.Frag) (mg : Str → Option Value) (CL fL : Addr) : Prop where
  line : ExTxt P K mg CL fL "BadLine" ["line"]
def forB : Stmt → List Stmt | .For _ _ b _ _ => b | _ => []
theorem Same.offL {H H1 H2 : Hp} {ps : List Addr} (s : Same H H1) (o : OffL ps H1 H2) (n : ∀ p ∈ ps, H p = none) : Same H H2 := fun b u e => o b u (fun m => by rw [n b m] at e; cases e) (s b u e)
theorem goM_step {texts : List Str} {i n : Nat} {t : Str} {Ls : List LineM} {op : List Nat} (h : texts[i]? = some t) : goM (texts.drop i) n Ls op = match stepM t n Ls op with | none => .error n | some q => goM (texts.drop (i + 1)) (n + 1) q.1 q.2 := by
  obtain ⟨hi, e⟩ := List.getElem?_eq_some_iff.mp h
  rw [List.drop_eq_getElem_cons hi, e]; rfl
theorem turnM_len {word : Str} {n : Nat} {Ls Ls' : List LineM} {op : List Nat} {ln : LineM} (h : turnM word n Ls op = some (Ls', ln)) : Ls'.length = Ls.length := by
  unfold turnM at h
  split at h
  · cases h
  · split at h
    · cases h; rw [List.length_set]
    · split at h
      · cases h; rw [List.length_set]
      · cases h
theorem lineM_form {text : Str} {b : Bool} {l : LineM} (h : lineM text b = some l) : l.form ≠ "end" := by
  unfold lineM at h
  dsimp only at h
  split at h
  · rename_i c
    cases ht : testM ((Txt.split text " ").drop 1) with
    | none => rw [ht] at h; cases h
    | some t =>
      rw [ht] at h
      cases h
      show (Txt.split text " ").headD "" ≠ "end"
      rcases c with c | c
      · rw [c]; decide +kernel
      · rw [c.1]; decide +kernel
  · cases hf : firstM (WR ++ if b = true then LL else OL) (Txt.split text " ") with
    | none => rw [hf] at h; cases h
    | some p =>
      rw [hf] at h
      cases h
      obtain ⟨form, m, _⟩ := first_len hf
      have : ∀ q ∈ (WR ++ OL) ++ (WR ++ LL), q.1 ≠ "end" := by decide +kernel
      refine this (p.1, form) ?_
      · split at m
        · exact List.mem_append_right _ m
        · exact List.mem_append_left _ m
theorem oneM_end {t : Str} {n : Nat} {Ls Ls1 : List LineM} {op : List Nat} {ln : LineM} (h : oneM t n Ls op = some (Ls1, ln)) (e : ln.form = "end") : ∃ op' k, op = op' ++ [k] := by
  unfold oneM at h
  split at h
  · unfold turnM at h
    cases hk : op.getLast? with
    | none => rw [hk] at h; cases h
    | some k =>
      obtain ⟨op', e⟩ := List.getLast?_eq_some_iff.mp hk
      exact ⟨op', k, e⟩
  · cases hl : lineM t (decide (aroundM Ls op ≠ 0)) with
    | none => rw [hl] at h; cases h
    | some l =>
      rw [hl] at h
      cases h
      exact absurd e (lineM_form hl)
section
variable {P : Program} {w : World} {K : PySem.W.Frag} {mg : Str → Option Value} {base : Heap}
def nLs : List Str := ["texts", "lines", "opened", "number", "text", "loop", "line"]
def spLines (K : PySem.W.Frag) (C CL : Addr) : Sp := fun vs H Q E => ∃ (a : Addr) (texts : List Str), vs = [.ref a] ∧ SqL K H a (texts.map V.str) ∧ (∀ x ∈ texts, Asc x ∧ x.length ≤ 90000) ∧ texts.length ≤ 1000 ∧ (∀ n : Nat, linesM texts = .error n → Rz CL "line" (.int n) H E) ∧
  ∀ Ls, linesM texts = .ok Ls → ∀ (l : Addr) (ps : List Addr) (H' : Hp), H l = none → H' l = some (.lst (ps.map V.ref)) → Objs K C H' ps Ls → Same H H' → (∀ p ∈ ps, H p = none) → Q (.ref l) H'
theorem scLines : FnScope nLs ["texts"] (defScope s_read_lines) := ⟨rfl, rfl, rfl, by decide +kernel, rfl, by decide +kernel, by decide +kernel⟩
/-- what holds between two lines -/
structure InvL (K : PySem.W.Frag) (C : Addr) (H H' : Hp) (l o : Addr) (texts : List Str) (i : Nat) (ps : List Addr) (Ls : List LineM) (op : List Nat) : Prop where
  sm : Same H H'
  hl : H' l = some (.lst (ps.map V.ref))
  ho : H' o = some (.lst (op.map fun n : Nat => V.int n))
  ob : Objs K C H' ps Ls
  go : goM (texts.drop i) (i + 1) Ls op = goM texts 1 [] []
  hop : ∀ n ∈ op, 1 ≤ n ∧ n ≤ Ls.length
  ln : Ls.length = i
  fr : ∀ p ∈ ps, H p = none
  ol : op.length ≤ i
theorem ok_lines {C CL fL : Addr} (R : Raw K mg "read_lines" s_read_lines ["texts"]) (T : GB mg) (X : EXC P K mg CL fL) (TL : ClsT K mg C "Line" lineNames) (DA : Def P w K mg base CX0 "loop_around" 1 ["lines", "opened"] (spAround K C)) (DT : Def P w K mg base CX0 "read_turn" 3 ["word", "number", "lines", "opened"] (spTurn K C)) (DL : Def P w K mg base CX0 "read_line" 7 ["text", "in_loop"] (spLine K C)) :
    Def P w K mg base (L2.CX P w) "read_lines" 8 ["texts"] (spLines K C CL) := by
  obtain ⟨fA, dA, GA, gA, kA, bA⟩ := DA
  obtain ⟨fT, dT, GT, gT, kT, bT⟩ := DT
  obtain ⟨fL, dL, GL, gL, kL, bL⟩ := DL
  refine R.def fun f fd F => F.okX scLines (fun vs H Q E h => ?_) (fun cdv A outer s H vs Q E hr h => ?_)
  · obtain ⟨a, texts, rfl, _⟩ := h
    rfl
  · obtain ⟨a, texts, rfl, sq, ha, hlen, kE, kQ⟩ := h
    have hr1 : Room 1 _ := hr.mono (by decide)
    have hr3 : Room 3 _ := hr.mono (by decide)
    obtain ⟨tB, pB, qB⟩ : ∃ tB, PSs (cxOf (L2.CX P w) P w K mg base nLs "read_lines" (defScope s_read_lines) f cdv A outer s H E) ((forB (nthS (defBody s_read_lines) 2)).drop 3) tB ∧
        ∀ (D : Ends) (l o : Addr) (i : Nat) (t : Str) (ps : List Addr) (Ls Ls1 : List LineM) (op : List Nat) (p : Addr) (ln : LineM) (H1 : Hp), texts[i]? = some t → l ≠ o → H l = none → H o = none → Same H H1 → H1 l = some (.lst (ps.map V.ref)) → H1 o = some (.lst (op.map fun n : Nat => V.int n)) → Objs K C H1 ps Ls1 → Ls1.length = i →
          (∀ p ∈ ps, H p = none) → H p = none → p ∉ ps → LineAt K C H1 p ln → op.length ≤ i → (∀ n ∈ op, 1 ≤ n ∧ n ≤ Ls.length) → Ls.length = i → oneM t (i + 1) Ls op = some (Ls1, ln) → goM (texts.drop i) (i + 1) Ls op = goM texts 1 [] [] →
          (∀ σ' H2 ps' Ls' op', (∃ x3 x4 x5 x6, σ' = [some (.ref a), some (.ref l), some (.ref o), x3, x4, x5, x6]) → InvL K C H H2 l o texts (i + 1) ps' Ls' op' → D.nx σ' H2) →
          tB D [some (.ref a), some (.ref l), some (.ref o), some (.int ((i + 1 : Nat) : Int)), some (.str t), some (.int (aroundM Ls op)), some (.ref p)] H1 := by
      refine ⟨_, pss_cons (ps_fld (pv 6) (pv 5) rfl)
        (pss_cons (ps_expr (pe_bm PySem.F.plainAttrs_list PySem.F.slot_list_append PySem.F.type_list_append mt_append (pv 1) (pa_cons (pv 6) pa_nil)))
        (pss_one (ps_if (pt_cmpR op_eq (pe_fld (pv 6) rfl) pe_str (nomark _)) (pss_one (ps_expr (pe_bm0 PySem.F.plainAttrs_list PySem.F.slot_list_pop PySem.F.type_list_pop mt_pop (pv 2))))
          (pss_one (ps_if (pt_cmpR op_in_seq (pe_fld (pv 6) rfl) (pe_tup (pa_cons pe_str (pa_cons pe_str pa_nil))) (by rfl)) (pss_one (ps_expr (pe_bm PySem.F.plainAttrs_list PySem.F.slot_list_append PySem.F.type_list_append mt_append (pv 2) (pa_cons (pv 3) pa_nil)))) pss_nil))))), ?_⟩
      intro D l o i t ps Ls Ls1 op p ln H1 ht nlo hl0 ho0 sm hl ho ob h1l fr hp0 pps la ol hop hLs hone hgo next
      obtain ⟨dx, vw, vt, hln, dw, dt⟩ := la
      refine ⟨_, rfl, _, rfl, p, C, dx, _, rfl, hln, TL.cl, TL.no _ (by simp [lineNames]), ln_small, ?_⟩
      rw [lp_loop]
      have lp : l ≠ p := ne_of hl hln (fun z => nomatch z)
      have op_ : o ≠ p := ne_of ho hln (fun z => nomatch z)
      have e1 : ExtT H1 (upd H1 p (.ins C dx (lnF ln.form vw vt (aroundM Ls op) ln.opener ln.turn ln.ending ln.thn ln.oth))) := ExtT.ins hln
      generalize hH2 : upd H1 p (.ins C dx (lnF ln.form vw vt (aroundM Ls op) ln.opener ln.turn ln.ending ln.thn ln.oth)) = H2 at *
      have hp2 : H2 p = some (.ins C dx (lnF ln.form vw vt (aroundM Ls op) ln.opener ln.turn ln.ending ln.thn ln.oth)) := by rw [← hH2, upd_same]
      have hl2 : H2 l = some (.lst (ps.map V.ref)) := by rw [← hH2, upd_ne lp]; exact hl
      have ho2 : H2 o = some (.lst (op.map fun n : Nat => V.int n)) := by rw [← hH2, upd_ne op_]; exact ho
      have ob2 : Objs K C H2 ps Ls1 := ob.keep e1 fun q hq => by rw [← hH2, upd_ne (fun z : q = p => pps (z ▸ hq))]
      have sm2 : Same H H2 := by rw [← hH2]; exact sm.updl hp0
      have la2 : LineAt K C H2 p { ln with loop := aroundM Ls op } := ⟨dx, vw, vt, hp2, dw.keepT e1 (tOnly_strs _), dt.keepT e1 (tOnly_test _)⟩
      have pl : ps.length = i := by rw [ob.len, h1l]
      have hi : i < texts.length := (List.getElem?_eq_some_iff.mp ht).1
      refine ⟨_, rfl, .inl ⟨rfl, _, SqL.of hl2⟩, _, rfl, l, _, _, rfl, rfl, hl2, by rw [List.length_map, sizeLine_eq]; omega, ?_⟩
      have e3 : ExtT H2 (upd H2 l (.lst (ps.map V.ref ++ [V.ref p]))) := ExtT.lst hl2
      generalize hH3 : upd H2 l (.lst (ps.map V.ref ++ [V.ref p])) = H3 at *
      have hp3 : H3 p = some (.ins C dx (lnF ln.form vw vt (aroundM Ls op) ln.opener ln.turn ln.ending ln.thn ln.oth)) := by rw [← hH3, upd_ne (Ne.symm lp)]; exact hp2
      have hl3 : H3 l = some (.lst ((ps ++ [p]).map V.ref)) := by rw [← hH3, upd_same, List.map_append]; rfl
      have ho3 : H3 o = some (.lst (op.map fun n : Nat => V.int n)) := by rw [← hH3, upd_ne (Ne.symm nlo)]; exact ho2
      have ob3 : Objs K C H3 (ps ++ [p]) (Ls1 ++ [{ ln with loop := aroundM Ls op }]) := by
        refine Objs.snoc (ob2.keep e3 fun q hq => ?_) (la2.keep e3 ?_) pps
        · rw [← hH3, upd_ne (fun z : q = l => ob2.offL hl2 (z ▸ hq))]
        · rw [← hH3, upd_ne (Ne.symm lp)]
      have sm3 : Same H H3 := by rw [← hH3]; exact sm2.updl hl0
      have fr3 : ∀ q ∈ ps ++ [p], H q = none := fun q hq => by
        rcases List.mem_append.mp hq with hq | hq
        · exact fr q hq
        · rw [List.mem_singleton.mp hq]; exact hp0
      have go3 : goM (texts.drop (i + 1)) (i + 1 + 1) (Ls1 ++ [{ ln with loop := aroundM Ls op }]) (openedM ln.form (i + 1) op) = goM texts 1 [] [] := by
        rw [← hgo, goM_step ht]
        unfold stepM
        rw [hone]
      have len3 : (Ls1 ++ [{ ln with loop := aroundM Ls op }]).length = i + 1 := by rw [List.length_append, h1l]; rfl
      have fin : ∀ (H4 : Hp) (op' : List Nat), op' = openedM ln.form (i + 1) op → H4 l = some (.lst ((ps ++ [p]).map V.ref)) → H4 o = some (.lst (op'.map fun n : Nat => V.int n)) → Same H H4 → Objs K C H4 (ps ++ [p]) (Ls1 ++ [{ ln with loop := aroundM Ls op }]) → InvL K C H H4 l o texts (i + 1) (ps ++ [p]) (Ls1 ++ [{ ln with loop := aroundM Ls op }]) op' := fun H4 op' eo g1 g2 g3 g4 => by
        refine ⟨g3, g1, g2, g4, by rw [eo]; exact go3, fun n hn => ?_, len3, fr3, ?_⟩
        · rw [len3]
          rw [eo] at hn
          unfold openedM at hn
          split at hn
          · have := hop n (List.dropLast_subset _ hn); omega
          · split at hn
            · rcases List.mem_append.mp hn with hn | hn
              · have := hop n hn; omega
              · rw [List.mem_singleton.mp hn]; omega
            · have := hop n hn; omega
        · rw [eo]
          unfold openedM
          split
          · rw [List.length_dropLast]; omega
          · split
            · rw [List.length_append]; show op.length + 1 ≤ i + 1; omega
            · omega
      refine ⟨_, rfl, p, C, dx, _, _, rfl, hp3, TL.cl, TL.no _ (by simp [lineNames]), ln_form .., rfl, _, rfl, ?_⟩
      by_cases c1 : ln.form = "end"
      · obtain ⟨op0, k, eop⟩ := oneM_end hone c1
        refine ifT (decide_eq_true (congrArg V.str c1)) ⟨_, rfl, .inl ⟨rfl, _, SqL.of ho3⟩, o, _, .int k, rfl, rfl, ho3, by rw [eop, List.map_append]; simp, ?_⟩
        refine next _ _ _ _ op0 ⟨_, _, _, _, rfl⟩ (fin _ op0 (by unfold openedM; rw [if_pos c1, eop, List.dropLast_concat]) ?_ ?_ (sm3.updl ho0) (ob3.updL ho3))
        · rw [upd_ne nlo]; exact hl3
        · rw [upd_same, eop, List.map_append, List.map_singleton, List.dropLast_concat]
      · refine ifF (decide_eq_false fun z => c1 (V.str.inj z)) ⟨_, rfl, p, C, dx, _, _, rfl, hp3, TL.cl, TL.no _ (by simp [lineNames]), ln_form .., (by show 2 ≤ sizeLine; decide), fun q hq => ?_⟩
        have sq := same_upd (o := .tup [V.str "if", V.str "walk"]) hq
        refine ⟨q, _, rfl, .inr (SqT.of upd_same), rfl, by rfl, _, rfl, ?_⟩
        show if opensM ln.form = true then _ else _
        cases c2 : opensM ln.form with
        | true =>
          refine iteT ⟨_, rfl, .inl ⟨rfl, _, SqL.of (sq _ _ ho3)⟩, _, rfl, o, _, _, rfl, rfl, sq _ _ ho3, by rw [List.length_map, sizeLine_eq]; omega, ?_⟩
          refine next _ _ _ _ (op ++ [i + 1]) ⟨_, _, _, _, rfl⟩ (fin _ _ (by unfold openedM; rw [if_neg c1, if_pos c2]) ?_ ?_ ((sm3.trans sq).updl ho0) ((ob3.same sq).updL (sq _ _ ho3)))
          · rw [upd_ne nlo]; exact sq _ _ hl3
          · rw [upd_same, List.map_append]; rfl
        | false =>
          refine iteF (next _ _ _ _ op ⟨_, _, _, _, rfl⟩ (fin _ _ (by unfold openedM; rw [if_neg c1, if_neg (by rw [c2]; decide)]) (sq _ _ hl3) (sq _ _ ho3) (sm3.trans sq) (ob3.same sq)))
    refine ⟨_, pss_cons (ps_set (i := 1) scLines.nd rfl (Or.inl rfl) (pe_lst pa_nil)) (pss_cons (ps_set (i := 2) scLines.nd rfl (Or.inl rfl) (pe_lst pa_nil))
      (pss_cons (ps_for (passes_of rfl) rfl (pi_enumS (by decide) (by decide) (by rfl) T.enum (pa_cons (pv 0) pa_nil)) (pg_tup rfl (pgs_cons (pg_name (i := 3) scLines.nd rfl (Or.inl rfl)) (pgs_cons (pg_name (i := 4) scLines.nd rfl (Or.inl rfl)) pgs_nil)))
        (pss_cons (ps_set (i := 5) scLines.nd rfl (Or.inl rfl) (pe_call GA hr1 (by rfl) gA kA bA .nil pass0 (pa_cons (pv 1) (pa_cons (pv 2) pa_nil))))
        (pss_cons (ps_if (pt_cmpR op_in_seq (pv 4) (pe_tup (pa_cons pe_str (pa_cons pe_str pa_nil))) (by rfl))
          (pss_one (ps_set (i := 6) scLines.nd rfl (Or.inl rfl) (pe_call GT hr3 (by rfl) gT kT bT .nil pass0 (pa_cons (pv 4) (pa_cons (pv 3) (pa_cons (pv 1) (pa_cons (pv 2) pa_nil)))))))
          (pss_one (ps_set (i := 6) scLines.nd rfl (Or.inl rfl) (pe_call GL hr (by rfl) gL kL bL .nil pass0 (pa_cons (pv 4) (pa_cons (pe_cmpR op_ne (pv 5) pe_int (nomark _)) pa_nil))))))
        (pss_cons (ps_if (pt_cmpR op_isN (pv 6) pe_non (nomark _)) (pss_one (ps_raiseX rfl X.line hr1 (takes_of rfl rfl rfl rfl) (pa_cons (pv 3) pa_nil))) pss_nil) pB))))
      (pss_cons (ps_if (pt_cmpR op_gt (pe_callB call_len_seq (by rfl) T.len PySem.boot_len (pa_cons (pv 2) pa_nil)) pe_int (nomark _)) (pss_one (ps_raiseX rfl X.line hr1 (takes_of rfl rfl rfl rfl) (pa_cons (pe_op op_add (pe_callB call_len_seq (by rfl) T.len PySem.boot_len (pa_cons (pv 0) pa_nil)) pe_int) pa_nil))) pss_nil)
      (pss_one (ps_ret (pv 1)))))), ?_⟩
    refine ⟨(by show 0 ≤ sizeLine; decide), fun l hl => ⟨(by show 0 ≤ sizeLine; decide), fun o ho => ?_⟩⟩
    have s1 := same_upd (o := .lst []) hl
    have s2 := same_upd (o := .lst []) ho
    have nlo : l ≠ o := fun z => by rw [← z, upd_same] at ho; cases ho
    have ho0 : H o = none := by
      cases e : H o with
      | none => rfl
      | some u => rw [s1 _ _ e] at ho; cases ho
    have inv0 : InvL K C H (upd (upd H l (.lst [])) o (.lst [])) l o texts 0 [] [] [] := ⟨s1.trans s2, by rw [upd_ne nlo, upd_same]; rfl, by rw [upd_same]; rfl, ⟨rfl, (fun i p l' h => by simp at h), .nil⟩, rfl, (fun n h => by cases h), rfl, (fun p h => by cases h), Nat.le_refl _⟩
    refine ⟨_, rfl, a, _, rfl, (s1.trans s2).seq sq, for_enumS (K := K) (a := a) (k := 1) (xs := texts.map V.str) (fun i σ H' => (∃ x3 x4 x5 x6, σ = [some (.ref a), some (.ref l), some (.ref o), x3, x4, x5, x6]) ∧ ∃ ps Ls op, InvL K C H H' l o texts i ps Ls op) ⟨⟨_, _, _, _, rfl⟩, _, _, _, inv0⟩ (fun i σ H' _ h => let ⟨_, _, _, _, I⟩ := h; I.sm.seq sq) ?_ ?_⟩
    · rintro i x Tt σ H1 hx ⟨⟨x3, x4, x5, x6, rfl⟩, ps, Ls, op, I⟩ hT
      rw [List.getElem?_map] at hx
      obtain ⟨t, ht, rfl⟩ := Option.map_eq_some_iff.mp hx
      obtain ⟨at1, at2⟩ := ha t (List.mem_of_getElem? ht)
      have sT := same_upd (o := .tup [V.int (1 + (i : Nat)), V.str t]) hT
      have eN : (1 : Int) + (i : Nat) = ((i + 1 : Nat) : Int) := by omega
      refine ⟨Tt, _, rfl, SqT.of upd_same, rfl, _, _, rfl, _, _, rfl, rfl, ?_⟩
      rw [eN] at sT ⊢
      generalize hH2 : upd H1 Tt (.tup [V.int ((i + 1 : Nat) : Int), V.str t]) = H2 at *
      have sm2 := I.sm.trans sT
      have hl2 := sT _ _ I.hl
      have ho2 := sT _ _ I.ho
      have ob2 := I.ob.same sT
      refine ⟨_, rfl, _, rfl, l, o, ps, Ls, op, rfl, SqL.of hl2, ob2, SqL.of ho2, I.hop, ?_⟩
      have next : ∀ σ' H2 ps' Ls' op', (∃ x3 x4 x5 x6, σ' = [some (.ref a), some (.ref l), some (.ref o), x3, x4, x5, x6]) → InvL K C H H2 l o texts (i + 1) ps' Ls' op' → (∃ x3 x4 x5 x6, σ' = [some (V.ref a), some (.ref l), some (.ref o), x3, x4, x5, x6]) ∧ ∃ ps Ls op, InvL K C H H2 l o texts (i + 1) ps Ls op := fun σ' H2 ps' Ls' op' e I' => ⟨e, ps', Ls', op', I'⟩
      have bad : oneM t (i + 1) Ls op = none → linesM texts = .error (i + 1) := fun e => by
        unfold linesM
        rw [← I.go, goM_step ht]
        unfold stepM
        rw [e]
      have old : ∀ {b : Addr} {H3 : Hp}, Same H H3 → H3 b = none → H b = none := fun {b H3} s e => by
        cases e2 : H b with
        | none => rfl
        | some u => rw [s _ _ e2] at e; cases e
      refine ⟨_, rfl, (by show 2 ≤ sizeLine; decide), fun q hq => ?_⟩
      have sq1 := same_upd (o := .tup [V.str "else", V.str "end"]) hq
      refine ⟨q, _, rfl, .inr (SqT.of upd_same), rfl, by rfl, _, rfl, ?_⟩
      generalize hH3 : upd H2 q (.tup [V.str "else", V.str "end"]) = H3 at *
      have sm3 := sm2.trans sq1
      have hl3 := sq1 _ _ hl2
      have ho3 := sq1 _ _ ho2
      have ob3 := ob2.same sq1
      show if isTurn t = true then _ else _
      cases ct : isTurn t with
      | true =>
        have eo : oneM t (i + 1) Ls op = turnM t (i + 1) Ls op := by unfold oneM; rw [if_pos ct]
        refine iteT ⟨_, rfl, _, rfl, _, rfl, _, rfl, t, i + 1, l, o, ps, Ls, op, rfl, SqL.of hl3, ob3, SqL.of ho3, I.hop, fun e => ?_, fun Ls' ln e p H4 hp off ob4 la => ?_⟩
        · refine ⟨_, rfl, rfl, _, rfl, ifT (by rfl) ⟨_, rfl, rfl, fun h => (nomatch h), fun _ dd hd => kE _ (bad (eo.trans e)) H3 dd sm3 hd⟩⟩
        · have sm4 := Same.offL sm3 off I.fr
          refine ⟨_, rfl, rfl, _, rfl, ifF (by rfl) ?_⟩
          have hl4 := off _ _ (ob3.offL hl3) hl3
          have ho4 := off _ _ (ob3.offL ho3) ho3
          exact qB _ l o i t ps Ls Ls' op p ln H4 ht nlo hl ho0 sm4 hl4 ho4 ob4 ((turnM_len e).trans I.ln) I.fr (old sm3 hp) (ob3.off hp) la I.ol I.hop I.ln (eo.trans e) I.go next
      | false =>
        have eo : oneM t (i + 1) Ls op = (lineM t (decide (aroundM Ls op ≠ 0))).map fun l => (Ls, l) := by unfold oneM; rw [if_neg (by rw [ct]; decide)]
        have eb : (!decide (V.int (aroundM Ls op) = V.int 0)) = decide (aroundM Ls op ≠ 0) := by
          rw [← decide_not]
          exact decide_eq_decide.mpr ⟨fun z e => z (by rw [e]; rfl), fun z e => z (by have := V.int.inj e; omega)⟩
        refine iteF ⟨_, rfl, _, rfl, rfl, t, decide (aroundM Ls op ≠ 0), congrArg (fun z => [V.str t, V.bl z]) eb, at1, at2, fun e H4 s4 => ?_, fun ln e p H4 hp s4 la => ?_⟩
        · refine ⟨_, rfl, rfl, _, rfl, ifT (by rfl) ⟨_, rfl, rfl, fun h => (nomatch h), fun _ dd hd => kE _ (bad (eo.trans (by rw [e]; rfl))) H4 dd (sm3.trans s4) hd⟩⟩
        · refine ⟨_, rfl, rfl, _, rfl, ifF (by rfl) ?_⟩
          exact qB _ l o i t ps Ls Ls op p ln H4 ht nlo hl ho0 (sm3.trans s4) (s4 _ _ hl3) (s4 _ _ ho3) (ob3.same s4) I.ln I.fr (old sm3 hp) (ob3.off hp) la I.ol I.hop I.ln (eo.trans (by rw [e]; rfl)) I.go next
    · rintro σ H1 ⟨⟨x3, x4, x5, x6, rfl⟩, ps, Ls, op, I⟩
      have hgo := I.go
      rw [List.length_map, List.drop_length] at hgo
      have eL : linesM texts = if op.length > 0 then .error (texts.length + 1) else .ok Ls := by
        unfold linesM
        rw [← hgo]; rfl
      refine ⟨_, rfl, o, _, rfl, .inl (SqL.of I.ho), _, _, rfl, rfl, _, rfl, ?_⟩
      rw [List.length_map]
      by_cases c : op.length > 0
      · rw [if_pos c] at eL
        refine ifT (decide_eq_true (by show (0 : Int) < (op.length : Nat); omega)) ⟨_, rfl, a, _, rfl, .inl (I.sm.seq sq), _, _, rfl, rfl, rfl, fun h => (nomatch h), fun _ dd hd => ?_⟩
        rw [List.length_map]
        exact kE _ eL H1 dd I.sm hd
      · rw [if_neg c] at eL
        exact ifF (decide_eq_false (by show ¬ (0 : Int) < (op.length : Nat); omega)) ⟨_, rfl, kQ Ls eL l ps H1 hl I.hl I.ob I.sm I.fr⟩
end
end K40

namespace K40
open PySem PySem.Spec PyProof.Rows L2 Fm PySem.RingX
section
variable {P : Program} {w : World} {K : PySem.W.Frag} {mg : Str → Option Value} {base : Heap}
def spLand (K : PySem.W.Frag) (C : Addr) : Sp := fun vs H Q _ => ∃ (l : Addr) (n : Nat) (ps : List Addr) (Ls : List LineM) (k r : Nat), vs = [.ref l, .int n] ∧ SqL K H l (ps.map V.ref) ∧ Objs K C H ps Ls ∧ landM k Ls n = some r ∧ ∀ H', Same H H' → Q (.int r) H'
theorem scLand : FnScope ["lines", "number", "opener"] ["lines", "number"] (defScope s_landing) := ⟨rfl, rfl, rfl, by decide +kernel, rfl, by decide +kernel, by decide +kernel⟩
theorem ok_land {C : Addr} (R : Raw K mg "landing" s_landing ["lines", "number"]) (T : GB mg) (TL : ClsT K mg C "Line" lineNames) : Def P w K mg base CX0 "landing" 1 ["lines", "number"] (spLand K C) := by
  refine R.def fun f fd F => F.ok scLand (fun vs H Q E h => ?_) (fun cdv A outer s H vs Q E hr h => ?_)
  · obtain ⟨l, n, ps, Ls, k, r, rfl, _⟩ := h
    rfl
  · obtain ⟨l, n, ps, Ls, k, r, rfl, sl, ob, hr0, kk⟩ := h
    refine ⟨_, pss_cons (ps_while PassesOwn.never (PW.pt (pw_and (pt_cmpR op_le (pv 1) (pe_callB call_len_seq (by rfl) T.len PySem.boot_len (pa_cons (pv 0) pa_nil)) (nomark _)) (pw_and1 (pt_cmpR op_in_seq (pe_fld (pe_ix ix_list (pv 0) (pe_op op_sub (pv 1) pe_int) (fun _ _ => rfl)) rfl) (pe_tup (pa_cons pe_str (pa_cons pe_str pa_nil))) (by rfl)))))
        (pss_cons (ps_set (i := 2) scLand.nd rfl (Or.inl rfl) (pe_ix ix_list (pv 0) (pe_op op_sub (pe_fld (pe_ix ix_list (pv 0) (pe_op op_sub (pv 1) pe_int) (fun _ _ => rfl)) rfl) pe_int) (fun _ _ => rfl)))
        (pss_cons (ps_if (pt_cmpR op_eq (pe_fld (pv 2) rfl) pe_str (nomark _)) (pss_one (ps_ret (pe_fld (pe_ix ix_list (pv 0) (pe_op op_sub (pv 1) pe_int) (fun _ _ => rfl)) rfl))) pss_nil)
        (pss_one (ps_set (i := 1) scLand.nd rfl (Or.inl rfl) (pe_op op_add (pe_fld (pv 2) rfl) pe_int))))))
      (pss_one (ps_ret (pv 1))), ?_⟩
    refine ⟨fun m σ H' => ∃ (n : Nat) (x2 : Option V), σ = [some (.ref l), some (.int n), x2] ∧ Same H H' ∧ landM m Ls n = some r, ⟨k, n, _, rfl, Same.refl _, hr0⟩, ?_⟩
    rintro m σ H1 ⟨n, x2, rfl, s1, hm⟩
    have pl : ps.length = Ls.length := ob.len
    have ob1 := ob.same s1
    have sl1 := s1.seq sl
    cases m with
    | zero => exact absurd hm (by simp [landM])
    | succ m =>
      unfold landM at hm
      by_cases c0 : n = 0
      · rw [if_pos c0] at hm; cases hm
      rw [if_neg c0] at hm
      refine ⟨_, rfl, _, rfl, l, _, rfl, .inl sl1, _, _, rfl, rfl, _, rfl, ?_⟩
      rw [List.length_map, pl]
      by_cases c1 : n ≤ Ls.length
      · refine ifT (decide_eq_true (by show (n : Int) ≤ (Ls.length : Nat); omega)) ?_
        obtain ⟨p, hp, pm, dx, vw, vt, hl, dw, dt⟩ := ob1.at_ (by omega : 1 ≤ n) c1
        have at1 : atI (ps.map V.ref) ((n : Int) - 1) = some (.ref p) := by
          rw [show (n : Int) - 1 = ((n - 1 : Nat) : Int) by omega]
          exact atI_nat (by rw [List.getElem?_map, hp]; rfl)
        refine ⟨_, rfl, _, rfl, _, _, rfl, rfl, l, _, _, .ref p, rfl, rfl, sl1, at1, p, C, dx, _, _, rfl, hl, TL.cl, TL.no _ (by simp [lineNames]), ln_form .., (by show 2 ≤ sizeLine; decide), fun q hq => ?_⟩
        have sq := same_upd (o := .tup [V.str "else", V.str "end"]) hq
        refine ⟨q, _, rfl, .inr (SqT.of upd_same), rfl, by rfl, _, rfl, ?_⟩
        generalize upd H1 q (.tup [V.str "else", V.str "end"]) = H2 at *
        show if isTurn (lineAt Ls n).form = true then _ else _
        cases c2 : isTurn (lineAt Ls n).form with
        | false =>
          rw [if_neg (fun z => by rw [c2] at z; cases z.2)] at hm
          cases hm
          exact iteF ⟨_, rfl, kk _ (s1.trans sq)⟩
        | true =>
          rw [if_pos ⟨c1, c2⟩] at hm
          split at hm
          · rename_i c3
            have ob2 := ob1.same sq
            have sl2 := sq.seq sl1
            have hl2 := sq _ _ hl
            obtain ⟨p', hp', _, dx', vw', vt', hl', _⟩ := ob2.at_ c3.1 c3.2
            have at2 : atI (ps.map V.ref) (((lineAt Ls n).opener : Int) - 1) = some (.ref p') := by
              rw [show ((lineAt Ls n).opener : Int) - 1 = (((lineAt Ls n).opener - 1 : Nat) : Int) by omega]
              exact atI_nat (by rw [List.getElem?_map, hp']; rfl)
            refine iteT ⟨fun σ' H'' => ∃ (n' : Nat) (x2 : Option V), σ' = [some (.ref l), some (.int n'), x2] ∧ Same H H'' ∧ landM m Ls n' = some r, fun σ' H' ⟨n', x2, z1, z2, z3⟩ => ⟨m, Nat.lt_succ_self m, n', x2, z1, z2, z3⟩, ?_⟩
            refine ⟨_, rfl, _, rfl, _, rfl, _, _, rfl, rfl, l, _, _, .ref p, rfl, rfl, sl2, at1, p, C, dx, _, _, rfl, hl2, TL.cl, TL.no _ (by simp [lineNames]), ln_opener .., _, _, rfl, rfl, l, _, _, .ref p', rfl, rfl, sl2, at2, ?_⟩
            refine ⟨_, rfl, p', C, dx', _, _, rfl, hl', TL.cl, TL.no _ (by simp [lineNames]), ln_form .., rfl, _, rfl, ?_⟩
            split at hm
            · rename_i c4
              cases hm
              exact ifT (decide_eq_true (congrArg V.str c4)) ⟨_, rfl, _, rfl, _, _, rfl, rfl, l, _, _, .ref p, rfl, rfl, sl2, at1, p, C, dx, _, _, rfl, hl2, TL.cl, TL.no _ (by simp [lineNames]), ln_opener .., kk _ (s1.trans sq)⟩
            · rename_i c4
              exact ifF (decide_eq_false fun z => c4 (V.str.inj z)) ⟨_, rfl, p', C, dx', _, _, rfl, hl', TL.cl, TL.no _ (by simp [lineNames]), ln_ending .., _, _, rfl, rfl, _, _, rfl, s1.trans sq, hm⟩
          · cases hm
      · rw [if_neg (fun z => c1 z.1)] at hm
        have e0 : decide ((n : Int) ≤ (Ls.length : Nat)) = false := decide_eq_false (by omega)
        cases hm
        exact ifF e0 (iteF ⟨_, rfl, kk _ s1⟩)
theorem land_same {Ls Ls' : List LineM} (hl : Ls'.length = Ls.length) (h : ∀ n, (lineAt Ls' n).form = (lineAt Ls n).form ∧ (lineAt Ls' n).opener = (lineAt Ls n).opener ∧ (lineAt Ls' n).ending = (lineAt Ls n).ending) : ∀ k n, landM k Ls' n = landM k Ls n
  | 0, _ => rfl
  | k + 1, n => by
    unfold landM
    rw [hl, (h n).1, (h n).2.1, (h _).1, (h _).2.2, land_same hl h k]
theorem set_line {Ls : List LineM} {n : Nat} {l : LineM} (h1 : 1 ≤ n) (h2 : n ≤ Ls.length) (m : Nat) : lineAt (Ls.set (n - 1) l) m = if m - 1 = n - 1 then l else lineAt Ls m := by
  unfold lineAt
  rw [List.getD_eq_getElem?_getD, List.getD_eq_getElem?_getD]
  split
  · rename_i e
    rw [e, List.getElem?_set_self (by omega)]; rfl
  · rename_i e
    rw [List.getElem?_set_ne (fun z => e z.symm)]
theorem land_set {Ls : List LineM} {n : Nat} {t : Nat} (h1 : 1 ≤ n) (h2 : n ≤ Ls.length) (k m : Nat) : landM k (Ls.set (n - 1) { lineAt Ls n with thn := t }) m = landM k Ls m := by
  refine land_same (by rw [List.length_set]) (fun j => ?_) k m
  rw [set_line h1 h2]
  split
  · rename_i e
    have : lineAt Ls j = lineAt Ls n := by unfold lineAt; rw [e]
    rw [this]
    exact ⟨rfl, rfl, rfl⟩
  · exact ⟨rfl, rfl, rfl⟩
def spLink (K : PySem.W.Frag) (C : Addr) : Sp := fun vs H Q _ => ∃ (l : Addr) (n : Nat) (ps : List Addr) (Ls : List LineM) (k : Nat) (Ls' : List LineM), vs = [.ref l, .int n] ∧ SqL K H l (ps.map V.ref) ∧ Objs K C H ps Ls ∧ 1 ≤ n ∧ n ≤ Ls.length ∧ linkM k Ls n = some Ls' ∧ ∀ H', OffL ps H H' → Objs K C H' ps Ls' → Q .non H'
theorem scLink : FnScope ["lines", "number", "line"] ["lines", "number"] (defScope s_link) := ⟨rfl, rfl, rfl, by decide +kernel, rfl, by decide +kernel, by decide +kernel⟩
theorem ok_link {C : Addr} (R : Raw K mg "link" s_link ["lines", "number"]) (T : GB mg) (TL : ClsT K mg C "Line" lineNames) (DL : Def P w K mg base CX0 "landing" 1 ["lines", "number"] (spLand K C)) : Def P w K mg base CX0 "link" 2 ["lines", "number"] (spLink K C) := by
  obtain ⟨fL, dL, GL, gL, kL, bL⟩ := DL
  refine R.def fun f fd F => F.ok scLink (fun vs H Q E h => ?_) (fun cdv A outer s H vs Q E hr h => ?_)
  · obtain ⟨l, n, ps, Ls, k, Ls', rfl, _⟩ := h
    rfl
  · obtain ⟨l, n, ps, Ls, k, Ls', rfl, sl, ob, h1, h2, hm, kk⟩ := h
    refine ⟨_, pss_cons (ps_set (i := 2) scLink.nd rfl (Or.inl rfl) (pe_ix ix_list (pv 0) (pe_op op_sub (pv 1) pe_int) (fun _ _ => rfl)))
      (pss_cons (ps_fld (pv 2) (pe_call GL hr (by rfl) gL kL bL .nil pass0 (pa_cons (pv 0) (pa_cons (pe_op op_add (pv 1) pe_int) pa_nil))) rfl)
      (pss_one (ps_if (pt_cmpR op_eq (pe_fld (pv 2) rfl) pe_str (nomark _)) (pss_one (ps_fld (pv 2) (pe_op op_add (pe_callB call_len_seq (by rfl) T.len PySem.boot_len (pa_cons (pv 0) pa_nil)) pe_int) rfl))
        (pss_one (ps_if (pt_cmpR op_eq (pe_fld (pv 2) rfl) pe_str (nomark _)) (pss_one (ps_fld (pv 2) (pe_call GL hr (by rfl) gL kL bL .nil pass0 (pa_cons (pv 0) (pa_cons (pe_op op_add (pe_fld (pe_ix ix_list (pv 0) (pe_op op_sub (pe_fld (pv 2) rfl) pe_int) (fun _ _ => rfl)) rfl) pe_int) pa_nil))) rfl))
          (pss_one (ps_if (pt_cmpR op_eq (pe_fld (pv 2) rfl) pe_str (nomark _)) (pss_one (ps_fld (pv 2) (pe_call GL hr (by rfl) gL kL bL .nil pass0 (pa_cons (pv 0) (pa_cons (pe_op op_add (pe_fld (pv 2) rfl) pe_int) pa_nil))) rfl))
            (pss_one (ps_if (pt_cmpR op_eq (pe_fld (pv 2) rfl) pe_str (nomark _)) (pss_one (ps_fld (pv 2) (pe_call GL hr (by rfl) gL kL bL .nil pass0 (pa_cons (pv 0) (pa_cons (pe_ifExp (pt_cmpR op_eq (pe_fld (pv 2) rfl) pe_int (nomark _)) (pe_fld (pv 2) rfl) (pe_op op_add (pe_fld (pv 2) rfl) pe_int)) pa_nil))) rfl)) pss_nil))))))))), ?_⟩
    obtain ⟨p, hp, pm, dx, vw, vt, hl, dw, dt⟩ := ob.at_ h1 h2
    have at1 : atI (ps.map V.ref) ((n : Int) - 1) = some (.ref p) := by
      rw [show (n : Int) - 1 = ((n - 1 : Nat) : Int) by omega]
      exact atI_nat (by rw [List.getElem?_map, hp]; rfl)
    unfold linkM at hm
    dsimp only at hm
    cases ht : landM k Ls (n + 1) with
    | none => rw [ht] at hm; cases hm
    | some t =>
      rw [ht] at hm
      dsimp only at hm
      refine ⟨_, rfl, _, rfl, _, _, rfl, rfl, l, _, _, .ref p, rfl, rfl, sl, at1, ?_⟩
      refine ⟨_, rfl, _, rfl, _, _, rfl, rfl, l, n + 1, ps, Ls, k, t, rfl, sl, ob, ht, fun H1 s1 => ⟨_, rfl, p, C, dx, _, rfl, s1 _ _ hl, TL.cl, TL.no _ (by simp [lineNames]), ln_small, ?_⟩⟩
      rw [lp_then]
      have ob1 := ob.same s1
      have ob2 : Objs K C (upd H1 p (.ins C dx (lnF (lineAt Ls n).form vw vt (lineAt Ls n).loop (lineAt Ls n).opener (lineAt Ls n).turn (lineAt Ls n).ending t (lineAt Ls n).oth))) ps (Ls.set (n - 1) { lineAt Ls n with thn := t }) := ob1.set (l := { lineAt Ls n with thn := t }) h1 h2 hp (dw.keep s1) (dt.keep s1)
      have off2 : OffL ps H (upd H1 p (.ins C dx (lnF (lineAt Ls n).form vw vt (lineAt Ls n).loop (lineAt Ls n).opener (lineAt Ls n).turn (lineAt Ls n).ending t (lineAt Ls n).oth))) := (OffL.of s1).upd pm
      have sl2 : SqL K (upd H1 p (.ins C dx (lnF (lineAt Ls n).form vw vt (lineAt Ls n).loop (lineAt Ls n).opener (lineAt Ls n).turn (lineAt Ls n).ending t (lineAt Ls n).oth))) l (ps.map V.ref) := off2.seqL ob sl
      have hp2 : (upd H1 p (.ins C dx (lnF (lineAt Ls n).form vw vt (lineAt Ls n).loop (lineAt Ls n).opener (lineAt Ls n).turn (lineAt Ls n).ending t (lineAt Ls n).oth))) p = some (.ins C dx (lnF (lineAt Ls n).form vw vt (lineAt Ls n).loop (lineAt Ls n).opener (lineAt Ls n).turn (lineAt Ls n).ending t (lineAt Ls n).oth)) := upd_same
      have dw2 : Dp K (upd H1 p (.ins C dx (lnF (lineAt Ls n).form vw vt (lineAt Ls n).loop (lineAt Ls n).opener (lineAt Ls n).turn (lineAt Ls n).ending t (lineAt Ls n).oth))) vw (strsD (lineAt Ls n).words) := (dw.keep s1).keepT (ExtT.ins (s1 _ _ hl)) (tOnly_strs _)
      have dt2 : Dp K (upd H1 p (.ins C dx (lnF (lineAt Ls n).form vw vt (lineAt Ls n).loop (lineAt Ls n).opener (lineAt Ls n).turn (lineAt Ls n).ending t (lineAt Ls n).oth))) vt (testD (lineAt Ls n).test) := (dt.keep s1).keepT (ExtT.ins (s1 _ _ hl)) (tOnly_test _)
      generalize upd H1 p (.ins C dx (lnF (lineAt Ls n).form vw vt (lineAt Ls n).loop (lineAt Ls n).opener (lineAt Ls n).turn (lineAt Ls n).ending t (lineAt Ls n).oth)) = H2 at *
      have pl : ps.length = Ls.length := ob.len
      have len2 : (Ls.set (n - 1) { lineAt Ls n with thn := t }).length = Ls.length := by rw [List.length_set]
      -- the line's last change
      have last : ∀ (H3 : Hp) (th ot : Nat) (Lz : List LineM), Same H2 H3 → Lz = Ls.set (n - 1) { lineAt Ls n with thn := th, oth := ot } → Ls' = Lz → Q .non (upd H3 p (.ins C dx (lnF (lineAt Ls n).form vw vt (lineAt Ls n).loop (lineAt Ls n).opener (lineAt Ls n).turn (lineAt Ls n).ending th ot))) := fun H3 th ot Lz s3 e1 e2 => by
        refine kk _ ((off2.trans (OffL.of s3)).upd pm) ?_
        have z := (ob2.same s3).set (n := n) (p := p) (dx := dx) (vw := vw) (vt := vt) (l := { lineAt Ls n with thn := th, oth := ot }) h1 (by rw [len2]; exact h2) hp (dw2.keep s3) (dt2.keep s3)
        rw [List.set_set] at z
        rw [e2, e1]
        exact z
      have put_oth : ∀ (t1 o1 z1 : Int), putF "other" (.int z1) (lnF (lineAt Ls n).form vw vt (lineAt Ls n).loop (lineAt Ls n).opener (lineAt Ls n).turn (lineAt Ls n).ending t1 o1) = lnF (lineAt Ls n).form vw vt (lineAt Ls n).loop (lineAt Ls n).opener (lineAt Ls n).turn (lineAt Ls n).ending t1 z1 := fun t1 o1 z1 => lp_other ..
      have put_thn : ∀ (t1 o1 z1 : Int), putF "then" (.int z1) (lnF (lineAt Ls n).form vw vt (lineAt Ls n).loop (lineAt Ls n).opener (lineAt Ls n).turn (lineAt Ls n).ending t1 o1) = lnF (lineAt Ls n).form vw vt (lineAt Ls n).loop (lineAt Ls n).opener (lineAt Ls n).turn (lineAt Ls n).ending z1 o1 := fun t1 o1 z1 => lp_then ..
      refine ⟨_, rfl, p, C, dx, _, _, rfl, hp2, TL.cl, TL.no _ (by simp [lineNames]), ln_form .., rfl, _, rfl, ?_⟩
      by_cases c1 : (lineAt Ls n).form = "quit"
      · rw [if_pos c1] at hm
        refine ifT (decide_eq_true (congrArg V.str c1)) ⟨_, rfl, l, _, rfl, .inl sl2, _, _, rfl, rfl, _, rfl, p, C, dx, _, rfl, hp2, TL.cl, TL.no _ (by simp [lineNames]), ln_small, ?_⟩
        rw [List.length_map, pl]
        show Q V.non (upd H2 p (.ins C dx (putF "then" (.int (((Ls.length : Nat) : Int) + 1)) (lnF (lineAt Ls n).form vw vt (lineAt Ls n).loop (lineAt Ls n).opener (lineAt Ls n).turn (lineAt Ls n).ending t (lineAt Ls n).oth))))
        rw [show ((Ls.length : Nat) : Int) + 1 = ((Ls.length + 1 : Nat) : Int) by omega, put_thn]
        exact last H2 (Ls.length + 1) (lineAt Ls n).oth _ (Same.refl _) rfl (Option.some.inj hm).symm
      rw [if_neg c1] at hm
      refine ifF (decide_eq_false fun z => c1 (V.str.inj z)) ⟨_, rfl, p, C, dx, _, _, rfl, hp2, TL.cl, TL.no _ (by simp [lineNames]), ln_form .., rfl, _, rfl, ?_⟩
      by_cases c2 : (lineAt Ls n).form = "stop"
      · rw [if_pos c2] at hm
        split at hm
        · rename_i c3
          cases hu : landM k Ls ((lineAt Ls (lineAt Ls n).loop).ending + 1) with
          | none => rw [hu] at hm; cases hm
          | some u =>
            rw [hu] at hm
            obtain ⟨p', hp', _, dx', vw', vt', hl', _⟩ := ob2.at_ c3.1 (by rw [len2]; exact c3.2)
            have at2 : atI (ps.map V.ref) (((lineAt Ls n).loop : Int) - 1) = some (.ref p') := by
              rw [show ((lineAt Ls n).loop : Int) - 1 = (((lineAt Ls n).loop - 1 : Nat) : Int) by omega]
              exact atI_nat (by rw [List.getElem?_map, hp']; rfl)
            have eend : (lineAt (Ls.set (n - 1) { lineAt Ls n with thn := t }) (lineAt Ls n).loop).ending = (lineAt Ls (lineAt Ls n).loop).ending := by
              rw [set_line h1 h2]
              split
              · rename_i e
                have : lineAt Ls (lineAt Ls n).loop = lineAt Ls n := by unfold lineAt at e ⊢; rw [e]
                rw [this]
              · rfl
            refine ifT (decide_eq_true (congrArg V.str c2)) ⟨_, rfl, _, rfl, _, rfl, p, C, dx, _, _, rfl, hp2, TL.cl, TL.no _ (by simp [lineNames]), ln_loop .., _, _, rfl, rfl, l, _, _, .ref p', rfl, rfl, sl2, at2, p', C, dx', _, _, rfl, hl', TL.cl, TL.no _ (by simp [lineNames]), ln_ending .., _, _, rfl, rfl, ?_⟩
            refine ⟨l, (lineAt (Ls.set (n - 1) { lineAt Ls n with thn := t }) (lineAt Ls n).loop).ending + 1, ps, _, k, u, rfl, sl2, ob2, by rw [land_set h1 h2, eend]; exact hu, fun H3 s3 => ⟨_, rfl, p, C, dx, _, rfl, s3 _ _ hp2, TL.cl, TL.no _ (by simp [lineNames]), ln_small, ?_⟩⟩
            rw [put_thn]
            exact last H3 u (lineAt Ls n).oth _ s3 rfl (Option.some.inj hm).symm
        · cases hm
      rw [if_neg c2] at hm
      refine ifF (decide_eq_false fun z => c2 (V.str.inj z)) ⟨_, rfl, p, C, dx, _, _, rfl, hp2, TL.cl, TL.no _ (by simp [lineNames]), ln_form .., rfl, _, rfl, ?_⟩
      by_cases c4 : (lineAt Ls n).form = "walk"
      · rw [if_pos c4] at hm
        cases hu : landM k Ls ((lineAt Ls n).ending + 1) with
        | none => rw [hu] at hm; cases hm
        | some u =>
          rw [hu] at hm
          refine ifT (decide_eq_true (congrArg V.str c4)) ⟨_, rfl, _, rfl, p, C, dx, _, _, rfl, hp2, TL.cl, TL.no _ (by simp [lineNames]), ln_ending .., _, _, rfl, rfl, ?_⟩
          refine ⟨l, (lineAt Ls n).ending + 1, ps, _, k, u, rfl, sl2, ob2, by rw [land_set h1 h2]; exact hu, fun H3 s3 => ⟨_, rfl, p, C, dx, _, rfl, s3 _ _ hp2, TL.cl, TL.no _ (by simp [lineNames]), ln_small, ?_⟩⟩
          rw [put_oth]
          exact last H3 t u _ s3 rfl (Option.some.inj hm).symm
      rw [if_neg c4] at hm
      refine ifF (decide_eq_false fun z => c4 (V.str.inj z)) ⟨_, rfl, p, C, dx, _, _, rfl, hp2, TL.cl, TL.no _ (by simp [lineNames]), ln_form .., rfl, _, rfl, ?_⟩
      by_cases c5 : (lineAt Ls n).form = "if"
      · rw [if_pos c5] at hm
        cases hu : landM k Ls (if (lineAt Ls n).turn = 0 then (lineAt Ls n).ending else (lineAt Ls n).turn + 1) with
        | none => rw [hu] at hm; cases hm
        | some u =>
          rw [hu] at hm
          have fin : ∀ H3, Same H2 H3 → Q .non (upd H3 p (.ins C dx (putF "other" (.int u) (lnF (lineAt Ls n).form vw vt (lineAt Ls n).loop (lineAt Ls n).opener (lineAt Ls n).turn (lineAt Ls n).ending t (lineAt Ls n).oth)))) := fun H3 s3 => by
            rw [put_oth]
            exact last H3 t u _ s3 rfl (Option.some.inj hm).symm
          refine ifT (decide_eq_true (congrArg V.str c5)) ⟨_, rfl, _, rfl, p, C, dx, _, _, rfl, hp2, TL.cl, TL.no _ (by simp [lineNames]), ln_turn .., rfl, _, rfl, ?_⟩
          by_cases c6 : (lineAt Ls n).turn = 0
          · refine ifT (decide_eq_true (by rw [c6]; rfl)) ⟨_, rfl, p, C, dx, _, _, rfl, hp2, TL.cl, TL.no _ (by simp [lineNames]), ln_ending .., ?_⟩
            exact ⟨l, (lineAt Ls n).ending, ps, _, k, u, rfl, sl2, ob2, by rw [land_set h1 h2]; rw [if_pos c6] at hu; exact hu, fun H3 s3 => ⟨_, rfl, p, C, dx, _, rfl, s3 _ _ hp2, TL.cl, TL.no _ (by simp [lineNames]), ln_small, fin H3 s3⟩⟩
          · refine ifF (decide_eq_false fun z => c6 (by have := V.int.inj z; omega)) ⟨_, rfl, p, C, dx, _, _, rfl, hp2, TL.cl, TL.no _ (by simp [lineNames]), ln_turn .., _, _, rfl, rfl, ?_⟩
            exact ⟨l, (lineAt Ls n).turn + 1, ps, _, k, u, rfl, sl2, ob2, by rw [land_set h1 h2]; rw [if_neg c6] at hu; exact hu, fun H3 s3 => ⟨_, rfl, p, C, dx, _, rfl, s3 _ _ hp2, TL.cl, TL.no _ (by simp [lineNames]), ln_small, fin H3 s3⟩⟩
      · rw [if_neg c5] at hm
        refine ifF (decide_eq_false fun z => c5 (V.str.inj z)) ?_
        refine kk _ off2 ?_
        rw [← Option.some.inj hm]
        exact ob2
end
end K40

namespace K40
open PySem PySem.Spec PyProof.Rows L2 Fm PySem.RingX
theorem linkM_len {k n : Nat} {Ls Ls' : List LineM} (h : linkM k Ls n = some Ls') : Ls'.length = Ls.length := by
  unfold linkM at h
  dsimp only at h
  have ms : ∀ {o : Option Nat} {g : Nat → LineM}, (o.map fun u => Ls.set (n - 1) (g u)) = some Ls' → Ls'.length = Ls.length := fun {o g} e => by
    cases o with
    | none => cases e
    | some u => cases e; rw [List.length_set]
  split at h
  · cases h
  · split at h
    · cases h; rw [List.length_set]
    · split at h
      · split at h
        · exact ms h
        · cases h
      · split at h
        · exact ms h
        · split at h
          · exact ms h
          · cases h; rw [List.length_set]
section
variable {P : Program} {w : World} {K : PySem.W.Frag} {mg : Str → Option Value} {base : Heap}
def spProg (K : PySem.W.Frag) (C CL : Addr) : Sp := fun vs H Q E => ∃ (a : Addr) (texts : List Str) (k : Nat) (r : Except Nat (List LineM)), vs = [.ref a] ∧ SqL K H a (texts.map V.str) ∧ (∀ x ∈ texts, Asc x ∧ x.length ≤ 90000) ∧ texts.length ≤ 1000 ∧ programM k texts = some r ∧ (∀ n : Nat, r = .error n → Rz CL "line" (.int n) H E) ∧
  ∀ Ls, r = .ok Ls → ∀ (t : Addr) (ps : List Addr) (H' : Hp), SqT K H' t (ps.map V.ref) → Objs K C H' ps Ls → Same H H' → (∀ p ∈ ps, H p = none) → Q (.ref t) H'
theorem scProg : FnScope ["texts", "lines", "number"] ["texts"] (defScope s_read_program) := ⟨rfl, rfl, rfl, by decide +kernel, rfl, by decide +kernel, by decide +kernel⟩
theorem goM_len : ∀ (texts : List Str) (n : Nat) (Ls : List LineM) (op : List Nat) (q : List LineM × List Nat), goM texts n Ls op = .ok q → q.1.length = Ls.length + texts.length
  | [], _, _, _, q, h => by cases h; rfl
  | t :: r, n, Ls, op, q, h => by
    unfold goM at h
    cases e : stepM t n Ls op with
    | none => rw [e] at h; cases h
    | some z =>
      rw [e] at h
      have := goM_len r _ _ _ q h
      have l1 : z.1.length = Ls.length + 1 := by
        unfold stepM at e
        cases eo : oneM t n Ls op with
        | none => rw [eo] at e; cases e
        | some y =>
          rw [eo] at e
          cases e
          obtain ⟨y1, y2⟩ := y
          have : y1.length = Ls.length := by
            unfold oneM at eo
            split at eo
            · exact turnM_len eo
            · cases hl : lineM t (decide (aroundM Ls op ≠ 0)) with
              | none => rw [hl] at eo; cases eo
              | some l => rw [hl] at eo; cases eo; rfl
          show (y1 ++ _).length = _
          rw [List.length_append, this]; rfl
      rw [this, l1, List.length_cons]; omega
theorem linesM_len {texts : List Str} {Ls : List LineM} (h : linesM texts = .ok Ls) : Ls.length = texts.length := by
  unfold linesM at h
  cases e : goM texts 1 [] [] with
  | error n => rw [e] at h; cases h
  | ok q =>
    rw [e] at h
    dsimp only at h
    split at h
    · cases h
    · cases h
      rw [goM_len _ _ _ _ _ e]; simp
theorem ok_prog {C CL : Addr} (R : Raw K mg "read_program" s_read_program ["texts"]) (T : GB mg) (DR : Def P w K mg base (L2.CX P w) "read_lines" 8 ["texts"] (spLines K C CL)) (DK : Def P w K mg base CX0 "link" 2 ["lines", "number"] (spLink K C)) : Def P w K mg base (L2.CX P w) "read_program" 9 ["texts"] (spProg K C CL) := by
  obtain ⟨fR, dR, GR, gR, kR, bR⟩ := DR
  obtain ⟨fK, dK, GK, gK, kK, bK⟩ := DK
  refine R.def fun f fd F => F.okX scProg (fun vs H Q E h => ?_) (fun cdv A outer s H vs Q E hr h => ?_)
  · obtain ⟨a, texts, k, r, rfl, _⟩ := h
    rfl
  · obtain ⟨a, texts, k, r, rfl, sq, ha, hlen, hp, kE, kQ⟩ := h
    have hr2 : Room 2 _ := hr.mono (by decide)
    refine ⟨_, pss_cons (ps_set (i := 1) scProg.nd rfl (Or.inl rfl) (pe_call (E := E) GR hr (by rfl) gR kR bR .nil (passes_call (takes_of rfl rfl rfl rfl) (fun _ _ _ _ z => z)) (pa_cons (pv 0) pa_nil)))
      (PSs.nox (pss_cons (ps_for PassesOwn.never rfl (pi_range2 (by rfl) T.range (pa_cons pe_int (pa_cons (pe_op op_add (pe_callB call_len_seq (by rfl) T.len PySem.boot_len (pa_cons (pv 1) pa_nil)) pe_int) pa_nil))) (pg_name (i := 2) scProg.nd rfl (Or.inl rfl))
          (pss_one (ps_expr (pe_call GK hr2 (by rfl) gK kK bK .nil pass0 (pa_cons (pv 1) (pa_cons (pv 2) pa_nil))))))
        (pss_one (ps_ret (pe_tupleOf (by rfl) T.tup (pv 1)))))), ?_⟩
    unfold programM at hp
    refine ⟨_, rfl, a, texts, rfl, sq, ha, hlen, fun n e => ?_, fun Ls0 e0 l ps H1 hl0 hl ob sm fr => ?_⟩
    · rw [e] at hp
      cases hp
      exact kE n rfl
    · rw [e0] at hp
      dsimp only at hp
      cases hk : linkAll k Ls0.length 1 Ls0 with
      | none => rw [hk] at hp; cases hp
      | some Lf =>
        rw [hk] at hp
        have er : Except.ok Lf = r := Option.some.inj hp
        have l0 := linesM_len e0
        have pl : ps.length = Ls0.length := ob.len
        refine ⟨_, rfl, l, _, rfl, .inl (SqL.of hl), _, _, rfl, rfl, 1, ((Ls0.length + 1 : Nat) : Int), by rw [List.length_map, pl]; rfl, ⟨by decide, by decide, by omega, by omega⟩, ?_⟩
        rw [show (((Ls0.length + 1 : Nat) : Int) - 1).toNat = Ls0.length by omega]
        refine for_range (lo := 1) (n := Ls0.length) (fun i σ H' => (∃ x2, σ = [some (.ref a), some (.ref l), x2]) ∧ H' l = some (.lst (ps.map V.ref)) ∧ OffL ps H1 H' ∧ ∃ Ls, Objs K C H' ps Ls ∧ Ls.length = Ls0.length ∧ linkAll k (Ls0.length - i) (i + 1) Ls = some Lf) ⟨⟨_, rfl⟩, hl, OffL.refl _ _, Ls0, ob, rfl, hk⟩ ?_ ?_
        · rintro i σ H2 hi ⟨⟨x2, rfl⟩, hl2, off2, Ls, ob2, hLl, hlk⟩
          rw [show Ls0.length - i = (Ls0.length - (i + 1)) + 1 by omega] at hlk
          unfold linkAll at hlk
          cases hm : linkM k Ls (i + 1) with
          | none => rw [hm] at hlk; cases hlk
          | some Ls' =>
            rw [hm] at hlk
            refine ⟨_, rfl, _, rfl, l, i + 1, ps, Ls, k, Ls', congrArg (fun z => [V.ref l, V.int z]) (by omega), SqL.of hl2, ob2, by omega, by omega, hm, fun H3 off3 ob3 => ?_⟩
            exact ⟨⟨_, rfl⟩, off3 _ _ (ob2.offL hl2) hl2, off2.trans off3, Ls', ob3, (linkM_len hm).trans hLl, hlk⟩
        · rintro σ H2 ⟨⟨x2, rfl⟩, hl2, off2, Ls, ob2, hLl, hlk⟩
          rw [Nat.sub_self] at hlk
          cases hlk
          refine ⟨_, rfl, .inl ⟨l, _, rfl, SqL.of hl2, fun q hq => ?_⟩⟩
          have sq2 := same_upd (o := .tup (ps.map V.ref)) hq
          exact kQ _ er.symm q ps _ (SqT.of upd_same) (ob2.same sq2) ((Same.offL sm off2 fr).trans sq2) fr
end
end K40

namespace Fm
open PySem PySem.Spec PyProof.Rows L2
def kindsL : List Str := ["find", "put", "set", "take", "drop"]
def waysL : List Str := ["plain", "stones", "sorted"]
def kindM (x : Str) : Bool := inV (.str x) (kindsL.map V.str)
def wayM (x : Str) : Bool := inV (.str x) (waysL.map V.str)
def linesOfM (x : Str) : List Str := if x = "" then [] else Txt.split x "\n"
def barredM (kind way : Str) : List Str := (if way = "stones" then ([] : List Str) else [("stone" : Str)]) ++ (if kind = "take" then [("first" : Str), ("key" : Str)] else ([] : List Str))
def barM (kind way : Str) (t : Str) : Bool := (barredM kind way).any fun b => inV (.str b) ((Txt.split t " ").map V.str)
def barTo (kind way : Str) (ts : List Str) : Nat → List Nat
  | 0 => []
  | n + 1 => barTo kind way ts n ++ (match ts[n]? with | some t => if barM kind way t = true then [n + 1] else [] | none => [])
def barsM (kind way : Str) (ts : List Str) : List Nat := barTo kind way ts ts.length
def outerM (l : LineM) : Bool := decide (l.form = "if") && decide (l.loop = 0)
def ifsM (Ls : List LineM) : Nat := (Ls.filter outerM).length
end Fm
namespace K40
open PySem PySem.Spec PyProof.Rows L2 Fm PySem.RingX
/-- a value that is no text -/
def NotStr (K : PySem.W.Frag) (H : Hp) (v : V) : Prop := ∃ T, TyX K H v (.type T) ∧ kitB T "str" = some false
structure TopC (K : PySem.W.Frag) (mg : Str → Option Value) : Prop where
  kinds : ∃ a, mg "KINDS" = some (.ref a) ∧ ∀ H, SqT K H a (kindsL.map V.str)
  ways : ∃ a, mg "WAYS" = some (.ref a) ∧ ∀ H, SqT K H a (waysL.map V.str)
  lines : ∃ t, mg "MOST_LINES" = some (.int 60 t)
  ifs : ∃ t, mg "MOST_IFS" = some (.int 7 t)
  loops : ∃ t, mg "MOST_LOOPS" = some (.int 2 t)
  nexts : ∃ t, mg "MOST_NEXTS" = some (.int 12 t)
  writes : ∃ t, mg "MOST_WRITES" = some (.int 12 t)
  step : ∃ a, mg "STEP" = some (.ref a) ∧ ∀ H, Dp K H (.ref a) (strsD ["at", "at"])
  start : ∃ a, mg "START" = some (.ref a) ∧ ∀ H, Dp K H (.ref a) (strsD ["at", "first"])
section
variable {P : Program} {w : World} {K : PySem.W.Frag} {mg : Str → Option Value} {base : Heap}
def spStrIn (K : PySem.W.Frag) (f : Str → Bool) : Sp := fun vs H Q _ => ∃ v : V, vs = [v] ∧ ((∃ x, v = .str x ∧ Q (.bl (f x)) H) ∨ (NotStr K H v ∧ Q (.bl false) H))
theorem scKind : FnScope ["value"] ["value"] (defScope s_is_kind) := ⟨rfl, rfl, rfl, by decide +kernel, rfl, by decide +kernel, by decide +kernel⟩
theorem ok_kind (R : Raw K mg "is_kind" s_is_kind ["value"]) (T : GB mg) (TC : TopC K mg) : Def P w K mg base CX0 "is_kind" 1 ["value"] (spStrIn K kindM) := by
  obtain ⟨a, g, hs⟩ := TC.kinds
  refine R.def fun f fd F => F.ok scKind (fun vs H Q E h => ?_) (fun cdv A outer s H vs Q E hr h => ?_)
  · obtain ⟨v, rfl, _⟩ := h
    rfl
  · obtain ⟨v, rfl, h⟩ := h
    refine ⟨_, pss_one (ps_ret (pe_and (pe_callB call_isi (by rfl) T.isi (by decide +kernel) (pa_cons (pv 0) (pa_cons (pe_bltn (v := .ty "str") (by rfl) T.str (by decide +kernel) rfl) pa_nil)))
        (pe_one (pe_cmpR op_in_seq (pv 0) (pe_glob (v := .ref a) (by rfl) g rfl) (by rfl))))), ?_⟩
    rcases h with ⟨x, rfl, k⟩ | ⟨⟨T0, t1, t2⟩, k⟩
    · exact ⟨_, rfl, .str x, _, _, _, true, rfl, .ty _, .base (.str x), kit_ty (by kernel_rfl), _, rfl, iteT ⟨_, rfl, a, _, rfl, .inr (hs H), rfl, by kernel_rfl, k⟩⟩
    · exact ⟨_, rfl, v, _, _, _, false, rfl, .ty _, t1, kit_ty t2, _, rfl, iteF k⟩
theorem scWayC : FnScope ["value"] ["value"] (defScope s_is_way) := ⟨rfl, rfl, rfl, by decide +kernel, rfl, by decide +kernel, by decide +kernel⟩
theorem ok_wayC (R : Raw K mg "is_way" s_is_way ["value"]) (T : GB mg) (TC : TopC K mg) : Def P w K mg base CX0 "is_way" 1 ["value"] (spStrIn K wayM) := by
  obtain ⟨a, g, hs⟩ := TC.ways
  refine R.def fun f fd F => F.ok scWayC (fun vs H Q E h => ?_) (fun cdv A outer s H vs Q E hr h => ?_)
  · obtain ⟨v, rfl, _⟩ := h
    rfl
  · obtain ⟨v, rfl, h⟩ := h
    refine ⟨_, pss_one (ps_ret (pe_and (pe_callB call_isi (by rfl) T.isi (by decide +kernel) (pa_cons (pv 0) (pa_cons (pe_bltn (v := .ty "str") (by rfl) T.str (by decide +kernel) rfl) pa_nil)))
        (pe_one (pe_cmpR op_in_seq (pv 0) (pe_glob (v := .ref a) (by rfl) g rfl) (by rfl))))), ?_⟩
    rcases h with ⟨x, rfl, k⟩ | ⟨⟨T0, t1, t2⟩, k⟩
    · exact ⟨_, rfl, .str x, _, _, _, true, rfl, .ty _, .base (.str x), kit_ty (by kernel_rfl), _, rfl, iteT ⟨_, rfl, a, _, rfl, .inr (hs H), rfl, by kernel_rfl, k⟩⟩
    · exact ⟨_, rfl, v, _, _, _, false, rfl, .ty _, t1, kit_ty t2, _, rfl, iteF k⟩
def spLinesOf : Sp := fun vs H Q _ => ∃ x : Str, vs = [.str x] ∧ x.length ≤ 100000 ∧ ∀ p, H p = none → Q (.ref p) (upd H p (.lst ((linesOfM x).map V.str)))
theorem scLinesOf : FnScope ["text"] ["text"] (defScope s_lines_of) := ⟨rfl, rfl, rfl, by decide +kernel, rfl, by decide +kernel, by decide +kernel⟩
theorem ok_linesOf (R : Raw K mg "lines_of" s_lines_of ["text"]) : Def P w K mg base CX0 "lines_of" 1 ["text"] spLinesOf := by
  refine R.def fun f fd F => F.ok scLinesOf (fun vs H Q E h => ?_) (fun cdv A outer s H vs Q E hr h => ?_)
  · obtain ⟨x, rfl, _⟩ := h
    rfl
  · obtain ⟨x, rfl, hl, k⟩ := h
    refine ⟨_, pss_one (ps_ret (pe_ifExp (pt_cmpR op_ne (pv 0) pe_str (nomark _)) (pe_split (pv 0) pe_str) (pe_lst pa_nil))), ?_⟩
    refine ⟨_, rfl, rfl, _, rfl, ?_⟩
    unfold linesOfM at k
    by_cases c : x = ""
    · rw [if_pos c] at k
      exact ifF (by rw [decide_eq_true (congrArg V.str c)]; rfl) ⟨(by show 0 ≤ sizeLine; decide), fun p hp => k p hp⟩
    · rw [if_neg c] at k
      exact ifT (by rw [decide_eq_false fun z => c (V.str.inj z)]; rfl) ⟨_, rfl, ⟨_, rfl⟩, x, "\n", rfl, rfl, by decide +kernel, by rw [sizeLine_eq]; omega, fun p hp => k p hp⟩
def spBarW : Sp := fun vs H Q _ => ∃ k x : Str, vs = [.str k, .str x] ∧ ∀ p H', H p = none → Same H H' → H' p = some (.lst ((barredM k x).map V.str)) → Q (.ref p) H'
theorem scBarW : FnScope ["kind", "way", "barred"] ["kind", "way"] (defScope s_barred_words) := ⟨rfl, rfl, rfl, by decide +kernel, rfl, by decide +kernel, by decide +kernel⟩
theorem ok_barW (R : Raw K mg "barred_words" s_barred_words ["kind", "way"]) : Def P w K mg base CX0 "barred_words" 1 ["kind", "way"] spBarW := by
  refine R.def fun f fd F => F.ok scBarW (fun vs H Q E h => ?_) (fun cdv A outer s H vs Q E hr h => ?_)
  · obtain ⟨k, x, rfl, _⟩ := h
    rfl
  · obtain ⟨kd, x, rfl, k⟩ := h
    obtain ⟨tR, pR, qR⟩ : ∃ tR, PSs (cxOf CX0 P w K mg base ["kind", "way", "barred"] "barred_words" (defScope s_barred_words) f cdv A outer s H E).nox ((defBody s_barred_words).drop 2) tR ∧
        ∀ (p : Addr) (bs : List Str) (H1 : Hp), H p = none → Same H H1 → H1 p = some (.lst (bs.map V.str)) → bs.length ≤ 5 → barredM kd x = bs ++ (if kd = "take" then [("first" : Str), ("key" : Str)] else ([] : List Str)) → tR { nx := fun _ H' => Q .non H', rt := Q } [some (.str kd), some (.str x), some (.ref p)] H1 := by
      refine ⟨_, pss_cons (ps_if (pt_cmpR op_eq (pv 0) pe_str (nomark _)) (pss_one (ps_expr (pe_bm PySem.F.plainAttrs_list PySem.F.slot_list_extend PySem.F.type_list_extend mt_extend (pv 2) (pa_cons (pe_lst (pa_cons pe_str (pa_cons pe_str pa_nil))) pa_nil)))) pss_nil)
        (pss_one (ps_ret (pv 2))), ?_⟩
      intro p bs H1 hp s1 h1 hl eb
      refine ⟨_, rfl, rfl, _, rfl, ?_⟩
      by_cases c : kd = "take"
      · rw [if_pos c] at eb
        refine ifT (decide_eq_true (congrArg V.str c)) ⟨_, rfl, .inl ⟨rfl, _, SqL.of h1⟩, (by show 2 ≤ sizeLine; decide), fun q hq => ?_⟩
        have sq := same_upd (o := .lst [V.str "first", V.str "key"]) hq
        refine ⟨p, q, _, _, rfl, rfl, sq _ _ h1, upd_same, by rw [List.length_map, sizeLine_eq]; show bs.length + 2 ≤ _; omega, _, rfl, ?_⟩
        refine k p _ hp ((s1.trans sq).updl hp) ?_
        rw [upd_same, eb, List.map_append]; rfl
      · rw [if_neg c, List.append_nil] at eb
        exact ifF (decide_eq_false fun z => c (V.str.inj z)) ⟨_, rfl, k p _ hp s1 (by rw [eb]; exact h1)⟩
    refine ⟨_, pss_cons (ps_set (i := 2) scBarW.nd rfl (Or.inl rfl) (pe_lst pa_nil)) (pss_cons (ps_if (pt_cmpR op_ne (pv 1) pe_str (nomark _)) (pss_one (ps_expr (pe_bm PySem.F.plainAttrs_list PySem.F.slot_list_append PySem.F.type_list_append mt_append (pv 2) (pa_cons pe_str pa_nil)))) pss_nil) pR), ?_⟩
    refine ⟨(by show 0 ≤ sizeLine; decide), fun p hp => ?_⟩
    have s1 := same_upd (o := .lst []) hp
    refine ⟨_, rfl, rfl, _, rfl, ?_⟩
    by_cases c : x = "stones"
    · exact ifF (by rw [decide_eq_true (congrArg V.str c)]; rfl) (qR p [] _ hp s1 upd_same (by decide) (by unfold barredM; rw [if_pos c]))
    · refine ifT (by rw [decide_eq_false fun z => c (V.str.inj z)]; rfl) ⟨_, rfl, .inl ⟨rfl, _, SqL.of upd_same⟩, p, _, _, rfl, rfl, upd_same, by show 0 < sizeLine; decide, ?_⟩
      rw [upd_upd]
      exact qR p ["stone"] _ hp (same_upd hp) upd_same (by decide) (by unfold barredM; rw [if_neg c])
end
end K40

namespace K40
open PySem PySem.Spec PyProof.Rows L2 Fm PySem.RingX
abbrev intL (ns : List Nat) : List V := ns.map fun n : Nat => V.int n
theorem barTo_len (kd x : Str) (ts : List Str) : ∀ n, (barTo kd x ts n).length ≤ n
  | 0 => Nat.le_refl _
  | n + 1 => by
    unfold barTo
    have := barTo_len kd x ts n
    rw [List.length_append]
    split
    · split
      · show _ + 1 ≤ _; omega
      · show _ + 0 ≤ _; omega
    · show _ + 0 ≤ _; omega
section
variable {P : Program} {w : World} {K : PySem.W.Frag} {mg : Str → Option Value} {base : Heap}
def nBL : List Str := ["kind", "way", "texts", "barred", "found", "number", "text", "words", "word"]
def spBarL (K : PySem.W.Frag) : Sp := fun vs H Q _ => ∃ (k x : Str) (a : Addr) (ts : List Str), vs = [.str k, .str x, .ref a] ∧ SqL K H a (ts.map V.str) ∧ (∀ t ∈ ts, Asc t) ∧ ts.length ≤ 1000 ∧ ∀ p H', H p = none → Same H H' → H' p = some (.lst (intL (barsM k x ts))) → Q (.ref p) H'
theorem scBarL : FnScope nBL ["kind", "way", "texts"] (defScope s_barred_lines) := ⟨rfl, rfl, rfl, by decide +kernel, rfl, by decide +kernel, by decide +kernel⟩
theorem ok_barL (R : Raw K mg "barred_lines" s_barred_lines ["kind", "way", "texts"]) (T : GB mg) (DB : Def P w K mg base CX0 "barred_words" 1 ["kind", "way"] spBarW) : Def P w K mg base CX0 "barred_lines" 2 ["kind", "way", "texts"] (spBarL K) := by
  obtain ⟨fB, dB, GB_, gB, kB, bB⟩ := DB
  refine R.def fun f fd F => F.ok scBarL (fun vs H Q E h => ?_) (fun cdv A outer s H vs Q E hr h => ?_)
  · obtain ⟨k, x, a, ts, rfl, _⟩ := h
    rfl
  · obtain ⟨kd, x, a, ts, rfl, sq, ha, hl, k⟩ := h
    refine ⟨_, pss_cons (ps_set (i := 3) scBarL.nd rfl (Or.inl rfl) (pe_call GB_ hr (by rfl) gB kB bB .nil pass0 (pa_cons (pv 0) (pa_cons (pv 1) pa_nil))))
      (pss_cons (ps_set (i := 4) scBarL.nd rfl (Or.inl rfl) (pe_lst pa_nil))
      (pss_cons (ps_for PassesOwn.never rfl (pi_enumS (by decide) (by decide) (by rfl) T.enum (pa_cons (pv 2) pa_nil)) (pg_tup rfl (pgs_cons (pg_name (i := 5) scBarL.nd rfl (Or.inl rfl)) (pgs_cons (pg_name (i := 6) scBarL.nd rfl (Or.inl rfl)) pgs_nil)))
        (pss_cons (ps_set (i := 7) scBarL.nd rfl (Or.inr rfl) (pe_split (pv 6) pe_str))
        (pss_one (ps_if (pt_val (pe_callB (cr_any rfl) (by rfl) T.any (by decide +kernel) (pa_cons (pe_lc (own := [("word", 8)]) (g := gName 8) (tt := tYes) rfl scBarL.nd (pi_list (pv 3)) (blkOk_by (own := [("word", 8)]) (N := nBL) (sc := defScope s_barred_lines) (by decide +kernel))
            (fun _ _ _ _ _ => pg_name (i := 8) scBarL.nd rfl (Or.inl rfl)) (fun _ _ _ _ _ => pts_nil) (fun _ _ _ _ _ => pe_cmpR (show OpR _ _ (rIn K false) from op_in_seq) (pv 8) (pv 7) (by rfl))) pa_nil)))
          (pss_one (ps_expr (pe_bm PySem.F.plainAttrs_list PySem.F.slot_list_append PySem.F.type_list_append mt_append (pv 4) (pa_cons (pv 5) pa_nil)))) pss_nil))))
      (pss_one (ps_ret (pv 4))))), ?_⟩
    refine ⟨_, rfl, _, rfl, kd, x, rfl, fun pb H1 hpb s1 hb => ?_⟩
    refine ⟨(by show 0 ≤ sizeLine; decide), fun p hp => ?_⟩
    have s2 := s1.trans (same_upd (o := .lst []) hp)
    have hb2 := same_upd (o := .lst []) hp _ _ hb
    have nbp : pb ≠ p := ne_of_none hb hp
    have hp0 : H p = none := by
      cases e : H p with
      | none => rfl
      | some u => rw [s1 _ _ e] at hp; cases hp
    have bl : (barredM kd x).length ≤ 3 := by
      unfold barredM
      rw [List.length_append]
      split <;> split <;> decide
    refine ⟨_, rfl, a, _, rfl, s2.seq sq, for_enumS (K := K) (a := a) (k := 1) (xs := ts.map V.str) (fun i σ H' => (∃ x5 x6 x7, σ = [some (.str kd), some (.str x), some (.ref a), some (.ref pb), some (.ref p), x5, x6, x7, none]) ∧ Same H H' ∧ H' pb = some (.lst ((barredM kd x).map V.str)) ∧ H' p = some (.lst (intL (barTo kd x ts i)))) ⟨⟨_, _, _, rfl⟩, s2, hb2, upd_same⟩ (fun i σ H' _ h => h.2.1.seq sq) ?_ ?_⟩
    · rintro i y Tt σ H2 hx ⟨⟨x5, x6, x7, rfl⟩, s3, h3b, h3p⟩ hT
      rw [List.getElem?_map] at hx
      obtain ⟨t, ht, rfl⟩ := Option.map_eq_some_iff.mp hx
      have at1 := ha t (List.mem_of_getElem? ht)
      have hi : i < ts.length := (List.getElem?_eq_some_iff.mp ht).1
      have eN : (1 : Int) + (i : Nat) = ((i + 1 : Nat) : Int) := by omega
      refine ⟨Tt, _, rfl, SqT.of upd_same, rfl, _, _, rfl, _, _, rfl, rfl, ?_⟩
      rw [eN] at *
      have sT := same_upd (o := .tup [V.int ((i + 1 : Nat) : Int), V.str t]) hT
      refine ⟨_, rfl, ⟨_, rfl⟩, t, " ", rfl, rfl, by decide +kernel, by rw [sizeLine_eq]; have := at1.2; omega, fun pw hpw => ?_⟩
      have sW := sT.trans (same_upd (o := .lst ((Txt.split t " ").map V.str)) hpw)
      generalize hH3 : upd (upd H2 Tt (.tup [V.int ((i + 1 : Nat) : Int), V.str t])) pw (.lst ((Txt.split t " ").map V.str)) = H3 at *
      have hw : H3 pw = some (.lst ((Txt.split t " ").map V.str)) := by rw [← hH3, upd_same]
      have hb3 := sW _ _ h3b
      have hp3 := sW _ _ h3p
      have sH3 := s3.trans sW
      refine ⟨_, rfl, pb, rfl, ⟨_, SqL.of hb3⟩, fun D hD => lc_list (K := K) (a := pb) (xs := (barredM kd x).map V.str) (fun j H' => Same H3 H' ∧ H' D = some (.lst (((barredM kd x).take j).map fun b => V.bl (inV (.str b) ((Txt.split t " ").map V.str))))) ⟨same_upd hD, upd_same⟩ (fun j H' _ h => SqL.of (h.1 _ _ hb3)) ?_ ?_⟩
      · rintro j y H4 hy ⟨s4, h4⟩
        rw [List.getElem?_map] at hy
        obtain ⟨b, hb', rfl⟩ := Option.map_eq_some_iff.mp hy
        refine ⟨rfl, _, rfl, _, rfl, pw, _, rfl, .inl (SqL.of (s4 _ _ hw)), rfl, by rw [List.all_map]; exact List.all_eq_true.mpr fun _ _ => rfl, _, h4, ?_, fun y o hy => ?_, ?_⟩
        · rw [List.length_map, List.length_take, sizeLine_eq]; omega
        · rw [upd_ne (ne_of_none hy hD)]; exact s4 y o hy
        · rw [upd_same, take_more hb', List.map_append]; rfl
      · rintro H4 ⟨s4, h4⟩
        rw [List.length_map, List.take_length] at h4
        refine ⟨D, (barredM kd x).map fun b => inV (.str b) ((Txt.split t " ").map V.str), rfl, ?_, ?_⟩
        · refine SqL.of (h4.trans ?_)
          rw [List.map_map]; rfl
        rw [any_map]
        refine ⟨_, rfl, ?_⟩
        have h4b := s4 _ _ hb3
        have h4p := s4 _ _ hp3
        have e1 : barTo kd x ts (i + 1) = barTo kd x ts i ++ (if barM kd x t = true then [i + 1] else []) := by
          show barTo kd x ts i ++ (match ts[i]? with | some t => if barM kd x t = true then [i + 1] else [] | none => []) = _
          rw [ht]
        show if barM kd x t = true then _ else _
        cases c : barM kd x t with
        | true =>
          rw [c, if_pos rfl] at e1
          have bt := barTo_len kd x ts i
          refine iteT ⟨_, rfl, .inl ⟨rfl, _, SqL.of h4p⟩, _, rfl, p, _, _, rfl, rfl, h4p, by rw [List.length_map, sizeLine_eq]; omega, ⟨_, _, _, rfl⟩, (sH3.trans s4).updl hp0, ?_, ?_⟩
          · rw [upd_ne nbp]; exact h4b
          · rw [upd_same, e1]
            show _ = some (HO.lst ((barTo kd x ts i ++ [i + 1]).map _))
            rw [List.map_append]; rfl
        | false =>
          rw [c, if_neg (by decide), List.append_nil] at e1
          exact iteF ⟨⟨_, _, _, rfl⟩, sH3.trans s4, h4b, by rw [e1]; exact h4p⟩
    · rintro σ H2 ⟨⟨x5, x6, x7, rfl⟩, s3, h3b, h3p⟩
      rw [List.length_map] at h3p
      exact ⟨_, rfl, k p H2 hp0 s3 h3p⟩
def spIfs (K : PySem.W.Frag) (C : Addr) : Sp := fun vs H Q _ => ∃ (t : Addr) (ps : List Addr) (Ls : List LineM), vs = [.ref t] ∧ SqT K H t (ps.map V.ref) ∧ Objs K C H ps Ls ∧ Ls.length ≤ 1000 ∧ ∀ H', Same H H' → Q (.int (ifsM Ls)) H'
theorem scIfs : FnScope ["program", "line"] ["program"] (defScope s_outer_ifs) := ⟨rfl, rfl, rfl, by decide +kernel, rfl, by decide +kernel, by decide +kernel⟩
theorem ok_ifs {C : Addr} (R : Raw K mg "outer_ifs" s_outer_ifs ["program"]) (T : GB mg) (TL : ClsT K mg C "Line" lineNames) : Def P w K mg base CX0 "outer_ifs" 1 ["program"] (spIfs K C) := by
  refine R.def fun f fd F => F.ok scIfs (fun vs H Q E h => ?_) (fun cdv A outer s H vs Q E hr h => ?_)
  · obtain ⟨t, ps, Ls, rfl, _⟩ := h
    rfl
  · obtain ⟨t, ps, Ls, rfl, sq, ob, hl, k⟩ := h
    refine ⟨_, pss_one (ps_ret (pe_callB call_len_seq (by rfl) T.len PySem.boot_len (pa_cons (pe_lc (own := [("line", 1)]) (g := gName 1) rfl scIfs.nd (pi_tup (pv 0)) (blkOk_by (own := [("line", 1)]) (N := ["program", "line"]) (sc := defScope s_outer_ifs) (by decide +kernel))
          (fun _ _ _ _ _ => pg_name (i := 1) scIfs.nd rfl (Or.inl rfl)) (fun _ _ _ _ _ => pts_one (PW.pt (pw_and (pt_cmpR (show OpR _ _ rEq from op_eq) (show PE _ _ (tFld K (tVar 1) "form") from pe_fld (pv 1) rfl) pe_str (nomark _)) (pw_and1 (pt_cmpR (show OpR _ _ rEq from op_eq) (show PE _ _ (tFld K (tVar 1) "loop") from pe_fld (pv 1) rfl) pe_int (nomark _)))))) (fun _ _ _ _ _ => pv 1)) pa_nil))), ?_⟩
    have pl : ps.length = Ls.length := ob.len
    refine ⟨_, rfl, t, rfl, ⟨_, sq⟩, fun D hD => lc_tup (K := K) (a := t) (xs := ps.map V.ref) (fun i H' => Same H H' ∧ ∃ ys, H' D = some (.lst ys) ∧ ys.length = ((Ls.take i).filter outerM).length) ⟨same_upd hD, [], upd_same, rfl⟩ (fun i H' _ h => h.1.sqT sq) ?_ ?_⟩
    · rintro i y H1 hy ⟨s1, ys, h1, l1⟩
      rw [List.getElem?_map] at hy
      obtain ⟨p, hp, rfl⟩ := Option.map_eq_some_iff.mp hy
      have hi : i < Ls.length := by rw [← pl]; exact (List.getElem?_eq_some_iff.mp hp).1
      obtain ⟨dx, vw, vt, hln, _⟩ := (ob.same s1).each i p Ls[i] hp (List.getElem?_eq_getElem hi)
      have sm : ys.length < sizeLine := by
        have := List.length_filter_le outerM (Ls.take i)
        rw [List.length_take] at this
        rw [sizeLine_eq]; omega
      have em : ∀ b, outerM Ls[i] = b → ((Ls.take (i + 1)).filter outerM).length = ((Ls.take i).filter outerM).length + (if b = true then 1 else 0) := fun b e => by
        rw [take_more (List.getElem?_eq_getElem hi), List.filter_append, List.length_append, List.filter_cons, e]
        cases b <;> rfl
      refine ⟨rfl, _, rfl, p, C, dx, _, _, rfl, hln, TL.cl, TL.no _ (by simp [lineNames]), ln_form .., rfl, _, rfl, ?_⟩
      by_cases c1 : Ls[i].form = "if"
      · refine ifT (decide_eq_true (congrArg V.str c1)) ⟨_, rfl, p, C, dx, _, _, rfl, hln, TL.cl, TL.no _ (by simp [lineNames]), ln_loop .., rfl, _, rfl, ?_⟩
        by_cases c2 : Ls[i].loop = 0
        · have e := em true (by unfold outerM; rw [decide_eq_true c1, decide_eq_true c2]; rfl)
          rw [decide_eq_true (by rw [c2]; rfl)]
          refine iteT ⟨_, rfl, ys, h1, sm, s1.updl hD, _, upd_same, ?_⟩
          rw [List.length_append, l1, e]; rfl
        · have e := em false (by unfold outerM; rw [decide_eq_false c2, Bool.and_false])
          rw [decide_eq_false (fun z => c2 (by have := V.int.inj z; omega))]
          exact iteF ⟨s1, ys, h1, by rw [l1, e]; rfl⟩
      · have e := em false (by unfold outerM; rw [decide_eq_false c1, Bool.false_and])
        exact ifF (decide_eq_false fun z => c1 (V.str.inj z)) (iteF ⟨s1, ys, h1, by rw [l1, e]; rfl⟩)
    · rintro H1 ⟨s1, ys, h1, l1⟩
      rw [List.length_map, pl, List.take_length] at l1
      refine ⟨D, _, rfl, .inl (SqL.of h1), ?_⟩
      rw [l1]
      exact k H1 s1
end
end K40

namespace Fm
open PySem PySem.Spec PyProof.Rows L2
def waysM : Nat → List LineM → List (List Nat × Nat) → List (List Nat) → Option (List (List Nat))
  | 0, _, _, _ => none
  | k + 1, Ls, wt, ways => match wt.getLast? with
    | none => some ways
    | some q =>
      if q.2 > Ls.length then waysM k Ls wt.dropLast (ways ++ [q.1])
      else if q.2 = 0 then none
      else
        let w1 := if (lineAt Ls q.2).form = "walk" then wt.dropLast else wt.dropLast ++ [(q.1 ++ [q.2], (lineAt Ls q.2).thn)]
        let w2 := if opensM (lineAt Ls q.2).form = true then w1 ++ [(q.1 ++ [q.2], (lineAt Ls q.2).oth)] else w1
        waysM k Ls w2 ways
end Fm
namespace K40
open PySem PySem.Spec PyProof.Rows L2 Fm PySem.RingX
/-- what waits: its tuple, its list, the way, the number -/
structure Wt where
  (t a : Addr) (way : List Nat) (n : Nat)
def Wt.at_ (H : Hp) (y z : Addr) (x : Wt) : Prop := H x.t = some (.tup [.ref x.a, .int x.n]) ∧ H x.a = some (.lst (intL x.way)) ∧ x.a ≠ y ∧ x.a ≠ z
def Way.at_ (H : Hp) (y z : Addr) (q : Addr × List Nat) : Prop := H q.1 = some (.lst (intL q.2)) ∧ q.1 ≠ y ∧ q.1 ≠ z
theorem Wt.at_.keep {H H' : Hp} {y z : Addr} {x : Wt} (h : x.at_ H y z) (s : ∀ b u, b ≠ y → b ≠ z → H b = some u → H' b = some u) (hy : ∃ xs, H y = some (.lst xs)) (hz : ∃ xs, H z = some (.lst xs)) : x.at_ H' y z := by
  obtain ⟨h1, h2, h3, h4⟩ := h
  obtain ⟨xs, hy⟩ := hy
  obtain ⟨zs, hz⟩ := hz
  exact ⟨s _ _ (ne_of h1 hy (fun z => nomatch z)) (ne_of h1 hz (fun z => nomatch z)) h1, s _ _ h3 h4 h2, h3, h4⟩
theorem Way.at_.keep {H H' : Hp} {y z : Addr} {q : Addr × List Nat} (h : Way.at_ H y z q) (s : ∀ b u, b ≠ y → b ≠ z → H b = some u → H' b = some u) : Way.at_ H' y z q := ⟨s _ _ h.2.1 h.2.2 h.1, h.2⟩
/-- between two turns: w the list that waits, y the ways -/
structure InvW (H0 H : Hp) (w y : Addr) (W : List Wt) (Y : List (Addr × List Nat)) : Prop where
  sm : Same H0 H
  hw : H w = some (.lst (W.map fun x => V.ref x.t))
  hy : H y = some (.lst (Y.map fun q => V.ref q.1))
  ew : ∀ x ∈ W, x.at_ H w y
  ey : ∀ q ∈ Y, Way.at_ H w y q
  fw : ∀ x ∈ W, H0 x.a = none
  fy : ∀ q ∈ Y, H0 q.1 = none
theorem InvW.same {H0 H H' : Hp} {w y : Addr} {W : List Wt} {Y : List (Addr × List Nat)} (I : InvW H0 H w y W Y) (s : Same H H') : InvW H0 H' w y W Y :=
  ⟨I.sm.trans s, s _ _ I.hw, s _ _ I.hy, fun x hx => (I.ew x hx).keep (fun b u _ _ e => s b u e) ⟨_, I.hw⟩ ⟨_, I.hy⟩, fun q hq => (I.ey q hq).keep fun b u _ _ e => s b u e, I.fw, I.fy⟩
section
variable {H0 H : Hp} {w y : Addr} {W : List Wt} {Y : List (Addr × List Nat)}
theorem InvW.pop {x : Wt} (I : InvW H0 H w y (W ++ [x]) Y) (nw : w ≠ y) (w0 : H0 w = none) : InvW H0 (upd H w (.lst (W.map fun x => V.ref x.t))) w y W Y := by
  have s : ∀ b u, b ≠ w → b ≠ y → H b = some u → (upd H w (.lst (W.map fun x => V.ref x.t))) b = some u := fun b u h1 _ e => by rw [upd_ne h1]; exact e
  exact ⟨I.sm.updl w0, upd_same, by rw [upd_ne (Ne.symm nw)]; exact I.hy, fun x hx => (I.ew x (List.mem_append_left _ hx)).keep s ⟨_, I.hw⟩ ⟨_, I.hy⟩, fun q hq => (I.ey q hq).keep s, fun x hx => I.fw x (List.mem_append_left _ hx), I.fy⟩
theorem InvW.push {x : Wt} (I : InvW H0 H w y W Y) (hx : x.at_ H w y) (hx0 : H0 x.a = none) (nw : w ≠ y) (w0 : H0 w = none) : InvW H0 (upd H w (.lst ((W.map fun x => V.ref x.t) ++ [V.ref x.t]))) w y (W ++ [x]) Y := by
  have s : ∀ b u, b ≠ w → b ≠ y → H b = some u → (upd H w (.lst ((W.map fun x => V.ref x.t) ++ [V.ref x.t]))) b = some u := fun b u h1 _ e => by rw [upd_ne h1]; exact e
  refine ⟨I.sm.updl w0, by rw [upd_same, List.map_append]; rfl, by rw [upd_ne (Ne.symm nw)]; exact I.hy, fun z hz => ?_, fun q hq => (I.ey q hq).keep s, fun z hz => ?_, I.fy⟩
  · rcases List.mem_append.mp hz with hz | hz
    · exact (I.ew z hz).keep s ⟨_, I.hw⟩ ⟨_, I.hy⟩
    · rw [List.mem_singleton.mp hz]; exact hx.keep s ⟨_, I.hw⟩ ⟨_, I.hy⟩
  · rcases List.mem_append.mp hz with hz | hz
    · exact I.fw z hz
    · rw [List.mem_singleton.mp hz]; exact hx0
theorem InvW.put {q : Addr × List Nat} (I : InvW H0 H w y W Y) (hq : Way.at_ H w y q) (hq0 : H0 q.1 = none) (nw : w ≠ y) (y0 : H0 y = none) : InvW H0 (upd H y (.lst ((Y.map fun q => V.ref q.1) ++ [V.ref q.1]))) w y W (Y ++ [q]) := by
  have s : ∀ b u, b ≠ w → b ≠ y → H b = some u → (upd H y (.lst ((Y.map fun q => V.ref q.1) ++ [V.ref q.1]))) b = some u := fun b u _ h1 e => by rw [upd_ne h1]; exact e
  refine ⟨I.sm.updl y0, by rw [upd_ne nw]; exact I.hw, by rw [upd_same, List.map_append]; rfl, fun z hz => (I.ew z hz).keep s ⟨_, I.hw⟩ ⟨_, I.hy⟩, fun z hz => ?_, I.fw, fun z hz => ?_⟩
  · rcases List.mem_append.mp hz with hz | hz
    · exact (I.ey z hz).keep s
    · rw [List.mem_singleton.mp hz]; exact hq.keep s
  · rcases List.mem_append.mp hz with hz | hz
    · exact I.fy z hz
    · rw [List.mem_singleton.mp hz]; exact hq0
theorem InvW.step {way : List Nat} {n m : Nat} {q1 q2 q3 : Addr} (I : InvW H0 H w y W Y) (nw : w ≠ y) (w0 : H0 w = none) (h1 : H q1 = none) (h2 : upd H q1 (.lst [V.int n]) q2 = none) (h3 : upd (upd H q1 (.lst [V.int n])) q2 (.lst (intL way ++ [V.int n])) q3 = none) :
    InvW H0 (upd (upd (upd (upd H q1 (.lst [V.int n])) q2 (.lst (intL way ++ [V.int n]))) q3 (.tup [V.ref q2, V.int m])) w (.lst ((W.map fun x => V.ref x.t) ++ [V.ref q3]))) w y (W ++ [⟨q3, q2, way ++ [n], m⟩]) Y := by
  have s1 := same_upd (o := .lst [V.int n]) h1
  have s2 := same_upd (o := .lst (intL way ++ [V.int n])) h2
  have s3 := same_upd (o := .tup [V.ref q2, V.int m]) h3
  have I3 := ((I.same s1).same s2).same s3
  refine I3.push (x := ⟨q3, q2, way ++ [n], m⟩) ⟨upd_same, ?_, ?_, ?_⟩ ?_ nw w0
  · refine (s3 _ _ upd_same).trans ?_
    show some (HO.lst (intL way ++ [V.int n])) = some (HO.lst ((way ++ [n]).map _))
    rw [List.map_append]; rfl
  · exact (ne_of_none (s1 _ _ I.hw) h2).symm
  · exact (ne_of_none (s1 _ _ I.hy) h2).symm
  · cases e : H0 q2 with
    | none => rfl
    | some u => rw [s1 _ _ (I.sm _ _ e)] at h2; cases h2
end
def whileB : Stmt → List Stmt | .While _ b _ _ => b | _ => []
section
variable {P : Program} {w : World} {K : PySem.W.Frag} {mg : Str → Option Value} {base : Heap}
def nAW : List Str := ["program", "ways", "waiting", "way", "number", "line"]
def spWays (K : PySem.W.Frag) (C : Addr) : Sp := fun vs H Q _ => ∃ (t : Addr) (ps : List Addr) (Ls : List LineM) (k : Nat) (ways : List (List Nat)), vs = [.ref t] ∧ SqT K H t (ps.map V.ref) ∧ Objs K C H ps Ls ∧ k ≤ 100000 ∧ waysM k Ls [([], 1)] [] = some ways ∧
  ∀ (p : Addr) (Y : List (Addr × List Nat)) (H' : Hp), H p = none → Same H H' → H' p = some (.lst (Y.map fun q => V.ref q.1)) → Y.map (·.2) = ways → (∀ q ∈ Y, H' q.1 = some (.lst (intL q.2)) ∧ H q.1 = none) → Q (.ref p) H'
theorem scWays : FnScope nAW ["program"] (defScope s_all_ways) := ⟨rfl, rfl, rfl, by decide +kernel, rfl, by decide +kernel, by decide +kernel⟩
theorem ok_ways {C : Addr} (R : Raw K mg "all_ways" s_all_ways ["program"]) (T : GB mg) (TL : ClsT K mg C "Line" lineNames) : Def P w K mg base CX0 "all_ways" 1 ["program"] (spWays K C) := by
  refine R.def fun f fd F => F.ok scWays (fun vs H Q E h => ?_) (fun cdv A outer s H vs Q E hr h => ?_)
  · obtain ⟨t, ps, Ls, k, ways, rfl, _⟩ := h
    rfl
  · obtain ⟨t, ps, Ls, k, ways, rfl, sq, ob, hk, hw, kk⟩ := h
    have pl : ps.length = Ls.length := ob.len
    obtain ⟨tE, pE, qE⟩ : ∃ tE, PSs (cxOf CX0 P w K mg base nAW "all_ways" (defScope s_all_ways) f cdv A outer s H E).nox ((whileB (nthS (defBody s_all_ways) 2)).drop 4) tE ∧
        ∀ (D : Ends) (y w : Addr) (a p : Addr) (n : Nat) (way : List Nat) (W : List Wt) (Y : List (Addr × List Nat)) (H1 : Hp), w ≠ y → H w = none → InvW H H1 w y W Y → H1 a = some (.lst (intL way)) → LineAt K C H1 p (lineAt Ls n) → way.length ≤ 200000 → W.length ≤ 200000 →
          (∀ W' H2, W'.map (fun x => (x.way, x.n)) = W.map (fun x => (x.way, x.n)) ++ (if opensM (lineAt Ls n).form = true then [(way ++ [n], (lineAt Ls n).oth)] else []) → InvW H H2 w y W' Y → D.nx [some (.ref t), some (.ref y), some (.ref w), some (.ref a), some (.int n), some (.ref p)] H2) →
          tE D [some (.ref t), some (.ref y), some (.ref w), some (.ref a), some (.int n), some (.ref p)] H1 := by
      refine ⟨_, pss_one (ps_if (pt_cmpR op_in_seq (pe_fld (pv 5) rfl) (pe_tup (pa_cons pe_str (pa_cons pe_str pa_nil))) (by rfl)) (pss_one (ps_expr (pe_bm PySem.F.plainAttrs_list PySem.F.slot_list_append PySem.F.type_list_append mt_append (pv 2) (pa_cons (pe_tup (pa_cons (pe_op op_cat (pv 3) (pe_lst (pa_cons (pv 4) pa_nil))) (pa_cons (pe_fld (pv 5) rfl) pa_nil))) pa_nil)))) pss_nil), ?_⟩
      intro D y w a p n way W Y H1 nwy w0 I ha la hwl hWl next
      obtain ⟨dx, vw, vt, hln, _⟩ := la
      refine ⟨_, rfl, p, C, dx, _, _, rfl, hln, TL.cl, TL.no _ (by simp [lineNames]), ln_form .., (by show 2 ≤ sizeLine; decide), fun q hq => ?_⟩
      have sq1 := same_upd (o := .tup [V.str "if", V.str "walk"]) hq
      refine ⟨q, _, rfl, .inr (SqT.of upd_same), rfl, by rfl, _, rfl, ?_⟩
      have I2 := I.same sq1
      have ha2 := sq1 _ _ ha
      have hl2 := sq1 _ _ hln
      generalize upd H1 q (.tup [V.str "if", V.str "walk"]) = H2 at *
      show if opensM (lineAt Ls n).form = true then _ else _
      cases c : opensM (lineAt Ls n).form with
      | false =>
        rw [c] at next
        exact iteF (next W H2 (by simp) I2)
      | true =>
        rw [c] at next
        refine iteT ⟨_, rfl, .inl ⟨rfl, _, SqL.of I2.hw⟩, _, rfl, _, rfl, (by show 1 ≤ sizeLine; decide), fun q1 h1 => ?_⟩
        have e1 := same_upd (o := .lst [V.int n]) h1
        refine ⟨a, q1, _, _, rfl, rfl, e1 _ _ ha2, upd_same, by rw [List.length_map, sizeLine_eq]; show way.length + 1 ≤ _; omega, fun q2 h2 => ?_⟩
        have e2 := e1.trans (same_upd (o := .lst (intL way ++ [V.int n])) h2)
        refine ⟨_, rfl, p, C, dx, _, _, rfl, e2 _ _ hl2, TL.cl, TL.no _ (by simp [lineNames]), ln_other .., (by show 2 ≤ sizeLine; decide), fun q3 h3 => ?_⟩
        have e3 := e2.trans (same_upd (o := .tup [V.ref q2, V.int (lineAt Ls n).oth]) h3)
        refine ⟨w, _, _, rfl, rfl, e3 _ _ I2.hw, by rw [List.length_map, sizeLine_eq]; omega, ?_⟩
        exact next _ _ (by rw [List.map_append]; rfl) (I2.step nwy w0 h1 h2 h3)
    obtain ⟨tD, pD, qD⟩ : ∃ tD, PSs (cxOf CX0 P w K mg base nAW "all_ways" (defScope s_all_ways) f cdv A outer s H E).nox ((whileB (nthS (defBody s_all_ways) 2)).drop 2) tD ∧
        ∀ (D : Ends) (y w a : Addr) (x5 : Option V) (n : Nat) (way : List Nat) (W : List Wt) (Y : List (Addr × List Nat)) (H1 : Hp), w ≠ y → H w = none → InvW H H1 w y W Y → H1 a = some (.lst (intL way)) → a ≠ w → 1 ≤ n → n ≤ Ls.length → way.length ≤ 200000 → W.length ≤ 100000 →
          (∀ W' H2 p, W'.map (fun x => (x.way, x.n)) = (W.map (fun x => (x.way, x.n)) ++ (if (lineAt Ls n).form = "walk" then [] else [(way ++ [n], (lineAt Ls n).thn)])) ++ (if opensM (lineAt Ls n).form = true then [(way ++ [n], (lineAt Ls n).oth)] else []) → InvW H H2 w y W' Y → D.nx [some (.ref t), some (.ref y), some (.ref w), some (.ref a), some (.int n), some (.ref p)] H2) →
          tD D [some (.ref t), some (.ref y), some (.ref w), some (.ref a), some (.int n), x5] H1 := by
      refine ⟨_, pss_cons (ps_set (i := 5) scWays.nd rfl (Or.inl rfl) (pe_ix ix_tup (pv 0) (pe_op op_sub (pv 4) pe_int) (fun _ _ => rfl)))
        (pss_cons (ps_if (pt_cmpR op_ne (pe_fld (pv 5) rfl) pe_str (nomark _)) (pss_one (ps_expr (pe_bm PySem.F.plainAttrs_list PySem.F.slot_list_append PySem.F.type_list_append mt_append (pv 2) (pa_cons (pe_tup (pa_cons (pe_op op_cat (pv 3) (pe_lst (pa_cons (pv 4) pa_nil))) (pa_cons (pe_fld (pv 5) rfl) pa_nil))) pa_nil)))) pss_nil) pE), ?_⟩
      intro D y w a x5 n way W Y H1 nwy w0 I ha haw hn1 hn2 hwl hWl next
      have ob1 := ob.same I.sm
      obtain ⟨p, hp, _, la⟩ := ob1.at_ hn1 hn2
      obtain ⟨dx, vw, vt, hln, dw, dt⟩ := id la
      have at1 : atI (ps.map V.ref) ((n : Int) - 1) = some (.ref p) := by
        rw [show (n : Int) - 1 = ((n - 1 : Nat) : Int) by omega]
        exact atI_nat (by rw [List.getElem?_map, hp]; rfl)
      refine ⟨_, rfl, _, rfl, _, _, rfl, rfl, t, _, _, .ref p, rfl, rfl, I.sm.sqT sq, at1, ?_⟩
      refine ⟨_, rfl, p, C, dx, _, _, rfl, hln, TL.cl, TL.no _ (by simp [lineNames]), ln_form .., rfl, _, rfl, ?_⟩
      by_cases c : (lineAt Ls n).form = "walk"
      · rw [if_pos c, List.append_nil] at next
        refine ifF (by rw [decide_eq_true (congrArg V.str c)]; rfl) ?_
        exact qE _ y w a p n way W Y H1 nwy w0 I ha la hwl (by omega) fun W' H2 e I' => next W' H2 p e I'
      · rw [if_neg c] at next
        refine ifT (by rw [decide_eq_false fun z => c (V.str.inj z)]; rfl) ⟨_, rfl, .inl ⟨rfl, _, SqL.of I.hw⟩, _, rfl, _, rfl, (by show 1 ≤ sizeLine; decide), fun q1 h1 => ?_⟩
        have e1 := same_upd (o := .lst [V.int n]) h1
        refine ⟨a, q1, _, _, rfl, rfl, e1 _ _ ha, upd_same, by rw [List.length_map, sizeLine_eq]; show way.length + 1 ≤ _; omega, fun q2 h2 => ?_⟩
        have e2 := e1.trans (same_upd (o := .lst (intL way ++ [V.int n])) h2)
        refine ⟨_, rfl, p, C, dx, _, _, rfl, e2 _ _ hln, TL.cl, TL.no _ (by simp [lineNames]), ln_then .., (by show 2 ≤ sizeLine; decide), fun q3 h3 => ?_⟩
        have e3 := e2.trans (same_upd (o := .tup [V.ref q2, V.int (lineAt Ls n).thn]) h3)
        refine ⟨w, _, _, rfl, rfl, e3 _ _ I.hw, by rw [List.length_map, sizeLine_eq]; omega, ?_⟩
        have I2 := I.step (way := way) (n := n) (m := (lineAt Ls n).thn) nwy w0 h1 h2 h3
        have npw : p ≠ w := ne_of hln I.hw (fun z => nomatch z)
        refine qE _ y w a p n way _ Y _ nwy w0 I2 ?_ (la.keep ?_ ?_) hwl (by rw [List.length_append]; show W.length + 1 ≤ _; omega) fun W' H2 e I' => next W' H2 p (by rw [e, List.map_append]; rfl) I'
        · rw [upd_ne haw]; exact e3 _ _ ha
        · exact (ExtT.of e3).trans (ExtT.lst (e3 _ _ I.hw))
        · rw [upd_ne npw, e3 _ _ hln, hln]
    refine ⟨_, pss_cons (ps_set (i := 1) scWays.nd rfl (Or.inl rfl) (pe_lst pa_nil))
      (pss_cons (ps_set (i := 2) scWays.nd rfl (Or.inl rfl) (pe_lst (pa_cons (pe_tup (pa_cons (pe_lst pa_nil) (pa_cons pe_int pa_nil))) pa_nil)))
      (pss_cons (ps_while PassesOwn.never (pt_cmpR op_gt (pe_callB call_len_seq (by rfl) T.len PySem.boot_len (pa_cons (pv 2) pa_nil)) pe_int (nomark _))
        (pss_cons (ps_asg (pe_bm0 PySem.F.plainAttrs_list PySem.F.slot_list_pop PySem.F.type_list_pop mt_pop (pv 2)) (pg_tup rfl (pgs_cons (pg_name (i := 3) scWays.nd rfl (Or.inl rfl)) (pgs_cons (pg_name (i := 4) scWays.nd rfl (Or.inl rfl)) pgs_nil))))
        (pss_cons (ps_if (pt_cmpR op_gt (pv 4) (pe_callB call_len_seq (by rfl) T.len PySem.boot_len (pa_cons (pv 0) pa_nil)) (nomark _)) (pss_cons (ps_expr (pe_bm PySem.F.plainAttrs_list PySem.F.slot_list_append PySem.F.type_list_append mt_append (pv 1) (pa_cons (pv 3) pa_nil))) (pss_one ps_continue)) pss_nil)
        pD)))
      (pss_one (ps_ret (pv 1))))), ?_⟩
    refine ⟨(by show 0 ≤ sizeLine; decide), fun y hy => ?_⟩
    have sy := same_upd (o := .lst []) hy
    refine ⟨(by show 0 ≤ sizeLine; decide), fun a0 ha0 => ?_⟩
    have sa := sy.trans (same_upd (o := .lst []) ha0)
    refine ⟨(by show 2 ≤ sizeLine; decide), fun t0 ht0 => ?_⟩
    have st := sa.trans (same_upd (o := .tup [V.ref a0, V.int 1]) ht0)
    refine ⟨(by show 1 ≤ sizeLine; decide), fun z hz => ?_⟩
    have s1 := same_upd (o := .tup [V.ref a0, V.int 1]) ht0
    have s2 := same_upd (o := .lst [V.ref t0]) hz
    have sz := st.trans s2
    have y0 : H y = none := hy
    have fz : ∀ b, H b = none ∨ True := fun _ => .inr trivial
    have z0 : H z = none := by
      cases e : H z with
      | none => rfl
      | some u => rw [st _ _ e] at hz; cases hz
    have a00 : H a0 = none := by
      cases e : H a0 with
      | none => rfl
      | some u => rw [sy _ _ e] at ha0; cases ha0
    have nyz : z ≠ y := by
      rintro rfl
      rw [(same_upd (o := .lst []) ha0 |>.trans s1) _ _ upd_same] at hz
      cases hz
    have Hy : upd (upd (upd (upd H y (.lst [])) a0 (.lst [])) t0 (.tup [V.ref a0, V.int 1])) z (.lst [V.ref t0]) y = some (.lst []) := (((same_upd (o := .lst []) ha0).trans s1).trans s2) _ _ upd_same
    have Ha : upd (upd (upd (upd H y (.lst [])) a0 (.lst [])) t0 (.tup [V.ref a0, V.int 1])) z (.lst [V.ref t0]) a0 = some (.lst []) := (s1.trans s2) _ _ upd_same
    have I0 : InvW H (upd (upd (upd (upd H y (.lst [])) a0 (.lst [])) t0 (.tup [V.ref a0, V.int 1])) z (.lst [V.ref t0])) z y [⟨t0, a0, [], 1⟩] [] := by
      refine ⟨sz, upd_same, Hy, fun x hx => ?_, fun q hq => absurd hq List.not_mem_nil, fun x hx => ?_, fun q hq => absurd hq List.not_mem_nil⟩
      rotate_left
      · rw [List.mem_singleton.mp hx]
        exact a00
      rw [List.mem_singleton.mp hx]
      refine ⟨s2 _ _ upd_same, Ha, ?_, ?_⟩
      · rintro rfl
        rw [s1 _ _ upd_same] at hz
        cases hz
      · rintro rfl
        rw [upd_same] at ha0
        cases ha0
    clear Hy Ha
    generalize upd (upd (upd (upd H y (.lst [])) a0 (.lst [])) t0 (.tup [V.ref a0, V.int 1])) z (.lst [V.ref t0]) = Hz at *
    clear s2 hz s1 st ha0 ht0
    refine ⟨fun m σ H' => ∃ (x3 x4 x5 : Option V) (W : List Wt) (Y : List (Addr × List Nat)), σ = [some (.ref t), some (.ref y), some (.ref z), x3, x4, x5] ∧ InvW H H' z y W Y ∧ waysM m Ls (W.map fun x => (x.way, x.n)) (Y.map (·.2)) = some ways ∧ (∀ q ∈ W.map fun x => (x.way, x.n), q.1.length + m ≤ 100000) ∧ W.length + m ≤ 100001 ∧ Y.length + m ≤ 100000, ⟨k, _, _, _, _, _, rfl, I0, hw, ?_, ?_, ?_⟩, ?_⟩
    · intro q hq
      rw [List.map_cons, List.map_nil, List.mem_singleton] at hq
      rw [hq]; show 0 + k ≤ _; omega
    · show 1 + k ≤ _; omega
    · show 0 + k ≤ _; omega
    rintro m σ H1 ⟨x3, x4, x5, W, Y, rfl, I, hm, b1, b2, b3⟩
    cases m with
    | zero => exact absurd hm (by simp [waysM])
    | succ m =>
      refine ⟨_, rfl, z, _, rfl, .inl (SqL.of I.hw), _, _, rfl, rfl, _, rfl, ?_⟩
      rw [List.length_map]
      rcases List.eq_nil_or_concat W with rfl | ⟨W', x, rfl⟩
      · refine ifF (by rfl) ?_
        have e : Y.map (·.2) = ways := Option.some.inj hm
        exact ⟨_, rfl, kk _ Y H1 y0 I.sm I.hy e fun q hq => ⟨(I.ey q hq).1, I.fy q hq⟩⟩
      · rw [List.concat_eq_append] at *
        have hx := I.ew x (List.mem_append_right _ (List.mem_singleton.mpr rfl))
        have I1 := I.pop nyz z0
        have hx1 : x.at_ (upd H1 z (.lst (W'.map fun x => V.ref x.t))) z y := hx.keep (fun b u h1 _ e => by rw [upd_ne h1]; exact e) ⟨_, I.hw⟩ ⟨_, I.hy⟩
        have hzl : H1 z = some (.lst ((W'.map fun x => V.ref x.t) ++ [V.ref x.t])) := by rw [I.hw, List.map_append]; rfl
        rw [List.map_append] at hm b1
        simp only [waysM, List.map_cons, List.map_nil, List.getLast?_concat, List.dropLast_concat] at hm
        refine ifT (decide_eq_true (by rw [List.length_append]; show (0 : Int) < ((W'.length + 1 : Nat) : Int); omega)) ⟨fun σ' H' => ∃ (x3 x4 x5 : Option V) (W : List Wt) (Y : List (Addr × List Nat)), σ' = [some (.ref t), some (.ref y), some (.ref z), x3, x4, x5] ∧ InvW H H' z y W Y ∧ waysM m Ls (W.map fun x => (x.way, x.n)) (Y.map (·.2)) = some ways ∧ (∀ q ∈ W.map fun x => (x.way, x.n), q.1.length + m ≤ 100000) ∧ W.length + m ≤ 100001 ∧ Y.length + m ≤ 100000, fun σ' H' ⟨x3, x4, x5, W, Y, q1, q2⟩ => ⟨m, Nat.lt_succ_self m, x3, x4, x5, W, Y, q1, q2⟩, ?_⟩
        have bl : W'.length + 1 + (m + 1) ≤ 100001 := by rw [List.length_append] at b2; exact b2
        have bx : x.way.length + (m + 1) ≤ 100000 := b1 _ (List.mem_append_right _ (List.mem_singleton.mpr rfl))
        refine ⟨_, rfl, .inl ⟨rfl, _, SqL.of hzl⟩, z, _, _, rfl, rfl, hzl, by rw [List.length_append]; exact List.getElem?_concat_length .., ?_⟩
        rw [List.dropLast_concat]
        refine ⟨x.t, _, rfl, SqT.of hx1.1, rfl, ?_⟩
        refine ⟨_, _, rfl, _, _, rfl, rfl, _, rfl, _, rfl, t, _, rfl, .inr (I1.sm.sqT sq), _, _, rfl, rfl, _, rfl, ?_⟩
        rw [List.length_map, pl]
        by_cases c : x.n > Ls.length
        · rw [if_pos c] at hm
          refine ifT (decide_eq_true (by show ((Ls.length : Nat) : Int) < (x.n : Int); omega)) ⟨_, rfl, .inl ⟨rfl, _, SqL.of I1.hy⟩, _, rfl, y, _, _, rfl, rfl, I1.hy, by rw [List.length_map, sizeLine_eq]; omega, ?_⟩
          refine ⟨_, _, _, W', Y ++ [(x.a, x.way)], rfl, I1.put (q := (x.a, x.way)) ⟨hx1.2.1, hx1.2.2.1, hx1.2.2.2⟩ (I.fw x (List.mem_append_right _ (List.mem_singleton.mpr rfl))) nyz y0, by rw [List.map_append]; exact hm, fun q hq => ?_, by omega, by rw [List.length_append]; show Y.length + 1 + m ≤ _; omega⟩
          have := b1 q (List.mem_append_left _ hq)
          omega
        · rw [if_neg c] at hm
          by_cases c0 : x.n = 0
          · rw [if_pos c0] at hm; cases hm
          rw [if_neg c0] at hm
          refine ifF (decide_eq_false (by show ¬ ((Ls.length : Nat) : Int) < (x.n : Int); omega)) ?_
          refine qD _ y z x.a _ x.n x.way W' Y _ nyz z0 I1 hx1.2.1 hx1.2.2.1 (by omega) (by omega) (by omega) (by omega) fun W2 H2 p e I2 => ?_
          refine ⟨_, _, _, W2, Y, rfl, I2, ?_, fun q hq => ?_, ?_, by omega⟩
          · rw [e]
            by_cases c1 : (lineAt Ls x.n).form = "walk" <;> by_cases c2 : opensM (lineAt Ls x.n).form = true
            all_goals simp only [c1, c2, if_true, if_false, Bool.false_eq_true, List.append_nil] at hm ⊢
            all_goals exact hm
          · rw [e] at hq
            rcases List.mem_append.mp hq with hq | hq
            · rcases List.mem_append.mp hq with hq | hq
              · have := b1 q (List.mem_append_left _ hq)
                omega
              · split at hq
                · exact absurd hq List.not_mem_nil
                · rw [List.mem_singleton.mp hq, List.length_append]
                  show x.way.length + 1 + m ≤ _
                  omega
            · split at hq
              · rw [List.mem_singleton.mp hq, List.length_append]
                show x.way.length + 1 + m ≤ _
                omega
              · exact absurd hq List.not_mem_nil
          · have e2 := congrArg List.length e
            rw [List.length_append, List.length_append, List.length_map, List.length_map] at e2
            have e3 : (if (lineAt Ls x.n).form = "walk" then [] else [(x.way ++ [x.n], (lineAt Ls x.n).thn)]).length ≤ 1 := by split <;> simp
            have e4 : (if opensM (lineAt Ls x.n).form = true then [(x.way ++ [x.n], (lineAt Ls x.n).oth)] else []).length ≤ 1 := by split <;> simp
            omega
end
end K40

/-! small sets of pairs (a number, a truth value) -/
namespace L2
open PySem PySem.Spec PyProof.Rows
abbrev QK := Nat × Bool
def kQ (q : QK) : List Leaf := [.num q.1, .num (if q.2 = true then 1 else 0)]
theorem kQ_inj {p q : QK} (e : kQ p = kQ q) : p = q := by
  obtain ⟨a, b⟩ := p
  obtain ⟨c, d⟩ := q
  unfold kQ at e
  injection e with e1 e2
  injection e1 with e1
  injection e2 with e2 _
  injection e2 with e2
  have h1 : a = c := by exact Int.ofNat.inj e1
  subst h1
  cases b <;> cases d <;> first | rfl | (simp at e2)
abbrev cQ (P : Program) (w : World) (q : QK) : Int := tupleKeyHash (leafKind P w) (kQ q)
abbrev IsQ (P : Program) (w : World) (h : Heap) (q : QK) (a : Addr) : Prop := IsTupleKey (leafKind P w) h (kQ q) a
section
variable {P : Program} {w : World} {A : Around} {E : Value → Shared → Prop} {s : Shared}
/-- a number or a truth value -/
def Plain2 (v : Value) : Prop := (∃ i t, v = .int i t) ∨ ∃ b, v = .bool b
theorem plain2_leaf {i : Int} {v : Value} (h : Leaf.isOf (.num i) v = true) : Plain2 v := by
  cases v with
  | int j t => exact .inl ⟨j, t, rfl⟩
  | bool b => exact .inr ⟨b, rfl⟩
  | _ => exact absurd h Bool.false_ne_true
theorem plain2_items {q : QK} {vs : List Value} (h : ItemsAre (leafKind P w) (kQ q) vs) : ∀ v ∈ vs, Plain2 v := by
  unfold kQ at h
  cases h with
  | cons h1 t1 =>
    cases t1 with
    | cons h2 t2 =>
      cases t2
      intro v hv
      rcases List.mem_cons.mp hv with rfl | hv
      · exact plain2_leaf h1
      · rw [List.mem_singleton.mp hv]
        exact plain2_leaf h2
theorem noClass2 {n : Nat} {v : Value} (h : Plain2 v) : ofAClassStatement n v = pure false := by
  rcases h with ⟨i, t, rfl⟩ | ⟨b, rfl⟩ <;> cases n <;> rfl
theorem byVal2 {n : Nat} {v : Value} (h : Plain2 v) : hashByValue n v = pure true := by
  rcases h with ⟨i, t, rfl⟩ | ⟨b, rfl⟩ <;> cases n <;> rfl
theorem noClassQ {q : QK} {b : Addr} {Q : Bool → Shared → Prop} (hk : IsQ P w s.heap q b) (yes : Q false s) : wpAny (model P w) A (ofAClassStatement 8 (.ref b)) Q E s := by
  have ty := hk.typeIs
  obtain ⟨o, its, n, ho, _, hd, hi⟩ := hk
  have pl := plain2_items hi
  unfold ofAClassStatement
  refine wpAny_bind (wpAny_typeOf ty ?_)
  dsimp only
  have tt : (("tuple" : String) == "tuple") = true := by decide
  simp only [tt, Bool.not_true, if_true, if_false, Bool.false_eq_true]
  try refine wpAny_bind (wpAny_pure ?_)
  try simp only [Bool.not_true, if_false, Bool.false_eq_true]
  show wpAny (model P w) A (seqItems? (.ref b) >>= _) Q E s
  refine wpAny_bind (wpAny_seqItems ho hd ?_)
  dsimp only
  refine wpAny_bind ?_
  show wpAny (model P w) A (forIn its _ _) _ E s
  rw [← Array.forIn_toList]
  refine wpAny_forIn_list _ (fun left acc z => acc.1 = none ∧ z = s ∧ ∀ v ∈ left, Plain2 v) _ ?_ ?_ _ _ ⟨rfl, rfl, pl⟩
  · rintro v left acc z ⟨ha, rfl, all⟩
    rw [noClass2 (all v List.mem_cons_self)]
    refine wpAny_bind (wpAny_pure ?_)
    simp only [if_false, Bool.false_eq_true]
    exact wpAny_pure ⟨rfl, rfl, fun u hu => all u (List.mem_cons_of_mem _ hu)⟩
  · rintro ⟨x1, x2⟩ z ⟨ha, rfl, _⟩
    simp only at ha
    subst ha
    exact wpAny_pure yes
theorem byValQ {q : QK} {b : Addr} {Q : Bool → Shared → Prop} (hk : IsQ P w s.heap q b) (yes : Q true s) : wpAny (model P w) A (hashByValue 8 (.ref b)) Q E s := by
  have ty := hk.typeIs
  obtain ⟨o, its, n, ho, _, hd, hi⟩ := hk
  have pl := plain2_items hi
  unfold hashByValue
  refine wpAny_bind (wpAny_specialOf ty F.slot_tuple_hash.lookup ?_)
  show wpAny (model P w) A (seqItems? (.ref b) >>= _) Q E s
  refine wpAny_bind (wpAny_seqItems ho hd ?_)
  refine wpAny_bind ?_
  show wpAny (model P w) A (forIn its _ _) _ E s
  rw [← Array.forIn_toList]
  refine wpAny_forIn_list _ (fun left acc z => acc.1 = none ∧ z = s ∧ ∀ v ∈ left, Plain2 v) _ ?_ ?_ _ _ ⟨rfl, rfl, pl⟩
  · rintro v left acc z ⟨ha, rfl, all⟩
    rw [byVal2 (all v List.mem_cons_self)]
    refine wpAny_bind (wpAny_pure ?_)
    simp only [Bool.not_true, if_false, Bool.false_eq_true]
    exact wpAny_pure ⟨rfl, rfl, fun u hu => all u (List.mem_cons_of_mem _ hu)⟩
  · rintro ⟨x1, x2⟩ z ⟨ha, rfl, _⟩
    simp only at ha
    subst ha
    exact wpAny_pure yes
theorem unseenQ {q : QK} {b : Addr} {Q : Bool → Shared → Prop} (hk : IsQ P w s.heap q b) {ys : List Value} (hy : ∀ y ∈ ys, ∃ r c, y = Value.ref c ∧ IsQ P w s.heap r c) (yes : Q false s) :
    wpAny (model P w) A (searchCouldBeSeen (.ref b) ys) Q E s := by
  unfold searchCouldBeSeen
  refine wpAny_bind ?_
  refine wpAny_forIn_list _ (fun left acc z => acc.1 = none ∧ z = s ∧ ∀ y ∈ left, ∃ r c, y = Value.ref c ∧ IsQ P w s.heap r c) _ ?_ ?_ _ _ ⟨rfl, rfl, hy⟩
  · rintro v left acc z ⟨ha, rfl, all⟩
    obtain ⟨r, c, rfl, hc⟩ := all v List.mem_cons_self
    have more : ∀ y ∈ left, ∃ r c, y = Value.ref c ∧ IsQ P w z.heap r c := fun u hu => all u (List.mem_cons_of_mem _ hu)
    dsimp only
    by_cases same : (b == c || (carriedByValue (.ref b) && carriedByValue (.ref c))) = true
    · exact wp_if_pos same (wpAny_pure ⟨rfl, rfl, more⟩)
    · refine wp_if_neg same (wpAny_bind (wpAny_eqIsQuiet_tuple hk ?_))
      simp only [Bool.not_true, if_false, Bool.false_eq_true]
      refine wpAny_bind (wpAny_eqIsQuiet_tuple hc ?_)
      simp only [Bool.not_true, if_false, Bool.false_eq_true]
      refine wpAny_bind (noClassQ hk ?_)
      simp only [if_false, Bool.false_eq_true]
      refine wpAny_bind (noClassQ hc ?_)
      simp only [if_false, Bool.false_eq_true]
      exact wpAny_pure ⟨rfl, rfl, more⟩
  · rintro ⟨x1, x2⟩ z ⟨ha, rfl, _⟩
    simp only at ha
    subst ha
    exact wpAny_pure yes
end
end L2

namespace L2
open PySem PySem.Spec PyProof.Rows
section
variable (c0 : QK → Int) (w : World)
def rowsQ (L : List (Addr × QK)) : List (Int × Value) := L.map fun p => (c0 p.2, Value.ref p.1)
def hashesQ (L : List (Addr × QK)) : List Int := L.map fun p => c0 p.2
/-- the table of a small set of pairs, without the pairs themselves -/
structure TabQ (h : Heap) (a : Addr) (L : List (Addr × QK)) (es : Array (Int × Value)) (ep : Nat) (t : SetTable) : Prop where
  ob : ∃ o, h.get? a = some o ∧ o.ExactSet ∧ o.data = .set es ep t
  rows : es.toList = rowsQ c0 L
  tab : TabOk t (hashesQ c0 L)
  plain : t.plain = true
  led : w.params.followText "set-order" = true ∨ t.led = true
  m7 : t.mask = 7
  few : L.length ≤ 4
end
section
variable {P : Program} {c0 : QK → Int} {w : World} {A : Around} {E : Value → Shared → Prop} {s : Shared} {a : Addr} {L : List (Addr × QK)} {es : Array (Int × Value)} {ep : Nat} {t : SetTable}
theorem TabQ.size {h : Heap} (T : TabQ c0 w h a L es ep t) : es.size = L.length := by
  have e := congrArg List.length T.rows
  rwa [Array.length_toList, rowsQ, List.length_map] at e
theorem TabQ.places {h : Heap} (T : TabQ c0 w h a L es ep t) : t.place.size = L.length := by
  have e := T.tab.sz
  rwa [hashesQ, List.length_map] at e
theorem TabQ.fits {h : Heap} (T : TabQ c0 w h a L es ep t) : t.fits es.size = true := by
  have e1 := T.places
  have e2 := T.size
  have e3 := T.m7
  have e4 := T.few
  unfold SetTable.fits SetTable.fill
  rw [T.tab.dm, Bool.and_eq_true, beq_iff_eq, decide_eq_true_eq]
  exact ⟨e1.trans e2.symm, by show t.place.size + 0 ≤ t.mask; omega⟩
theorem TabQ.entry {h : Heap} (T : TabQ c0 w h a L es ep t) {i : Nat} {p : Addr × QK} (hp : L[i]? = some p) : es[i]? = some (c0 p.2, Value.ref p.1) := by
  rw [← Array.getElem?_toList, T.rows, rowsQ, List.getElem?_map, hp]
  rfl
theorem TabQ.nogw {h : Heap} (T : TabQ c0 w h a L es ep t) : ¬ t.gaveWay = true := by
  unfold SetTable.gaveWay
  rw [T.m7]
  decide
abbrev startQ (m : Nat) (h : Int) : SetTable.Probe := runAt m (SetTable.bits h % (m + 1)) (SetTable.bits h)
theorem probe_is (t : SetTable) (f : Nat → Int) (h : Int) (p : SetTable.Probe) : t.probe f h p = SetTable.probe.go t f h (10 * SetTable.turns t.mask) p := by
  unfold SetTable.probe
  rfl
/-- a search, where no other pair has the same hash -/
theorem searchQ (T : TabQ c0 w s.heap a L es ep t) (tup : ∀ p ∈ L, IsQ P w s.heap p.2 p.1) {x : Addr} {q : QK} (hx : IsQ P w s.heap q x) (inj : ∀ p ∈ L, c0 p.2 = c0 q → p.2 = q) (hu : A.units < cLine) {adding : Bool} {Q : SetFound → Shared → Prop}
    (yes : q ∈ L.map (·.2) → ∀ r : Option Nat, (adding = false → r.isSome = true) → Q (.there r) s)
    (no : ∀ K, q ∉ L.map (·.2) → way t.mask (c0 q) K ∉ t.place.toList → (∀ c, c < K → way t.mask (c0 q) c ∈ t.place.toList) → Q (.free (way t.mask (c0 q) K) false) s) :
    ∀ f, wpAny (model P w) A (setSearchFrom a (.ref x) (c0 q) adding (f + 1) none) Q E s := by
  intro f
  obtain ⟨o, ho, hex, hd⟩ := T.ob
  have hl : (hashesQ c0 L).length ≤ t.mask := by
    have := T.few
    have := T.m7
    rw [hashesQ, List.length_map]
    omega
  obtain ⟨K, hK0, hK, hKb⟩ := T.tab.first hl (c0 q)
  rw [setSearchFrom_succ]
  refine wpAny_bind (wpAny_setState_of ho hd T.fits ?_)
  dsimp only
  refine wp_if_neg T.nogw ?_
  try refine wpAny_bind (wpAny_pure ?_)
  have hashAt : ∀ (i : Nat) p, L[i]? = some p → (es[i]?.map (·.1)).getD 0 = c0 p.2 := fun i p hp => by
    rw [T.entry hp]
    rfl
  have spec := go_spec t T.tab.ris T.tab.dm (fun i => (es[i]?.map (·.1)).getD 0) (c0 q) (10 * SetTable.turns t.mask) K (startQ t.mask (c0 q)) rfl hK0 (fun c hc => hKb c hc) hK
  rw [probe_is, Option.getD_none, start_run]
  rcases spec with ⟨c, i, hc, hi, hh, _, met⟩ | ⟨hno, met⟩
  · rw [met]
    dsimp only
    have il : i < L.length := by
      have h1 : i < t.place.toList.length := (List.getElem?_eq_some_iff.mp hi).1
      rwa [Array.length_toList, T.places] at h1
    obtain ⟨p, hp⟩ : ∃ p, L[i]? = some p := ⟨_, List.getElem?_eq_getElem il⟩
    have pm : p ∈ L := List.mem_of_getElem? hp
    have pq : p.2 = q := inj p pm ((hashAt i p hp).symm.trans hh)
    have tail : ∀ j nx, t.slot j = .live i → wpAny (model P w) A (searchRest a (.ref x) (c0 q) adding f es t j i nx) Q E s := fun j nx hj => by
      unfold searchRest
      rw [T.entry hp]
      dsimp only
      refine wpAny_bind (wpAny_holding (wpAny_eqBool_tuple hu (tup p pm) hx ?_))
      refine wpAny_bind (wpAny_setState_of ho hd T.fits ?_)
      dsimp only
      have dk : decide (kQ p.2 = kQ q) = true := decide_eq_true (congrArg kQ pq)
      rw [dk]
      cases adding with
      | true => exact wp_if_pos (by decide) (wpAny_pure (yes (List.mem_map.mpr ⟨p, pm, pq⟩) none fun z => nomatch z))
      | false =>
        refine wp_if_neg (by decide) ?_
        try refine wpAny_bind (wpAny_pure ?_)
        rw [sameMem]
        dsimp only
        simp only [if_true, hj, T.entry hp]
        refine wpAny_bind (wpAny_isSame_ref_self (wpAny_bind (wpAny_pure ?_)))
        simp only [if_true]
        exact wpAny_pure (yes (List.mem_map.mpr ⟨p, pm, pq⟩) (some i) fun _ => rfl)
    have sl := slot_live T.tab.ris hi
    by_cases ld : t.led = true
    · refine wp_if_neg (by rw [ld]; decide) ?_
      try refine wpAny_bind (wpAny_pure ?_)
      exact tail _ _ sl
    · refine wp_if_pos (by simp [ld]) (wpAny_bind (unseenQ hx (fun y hy => ?_) (wp_if_neg (by decide) ?_)))
      · obtain ⟨e, he, rfl⟩ := List.mem_map.mp hy
        have he1 : e ∈ es ∧ e.1 = c0 q := by simpa using he
        have he2 : e ∈ es.toList := by simpa using he1.1
        rw [T.rows, rowsQ] at he2
        obtain ⟨p2, hp2, rfl⟩ := List.mem_map.mp he2
        exact ⟨p2.2, p2.1, rfl, tup p2 hp2⟩
      · try refine wpAny_bind (wpAny_pure ?_)
        exact tail _ _ sl
  · rw [met]
    dsimp only
    refine wpAny_pure (no K (fun hm => ?_) hK hKb)
    obtain ⟨p, pm, pq⟩ := List.mem_map.mp hm
    obtain ⟨i, hi, e⟩ := List.getElem_of_mem pm
    have hp : L[i]? = some p := by rw [List.getElem?_eq_getElem hi, e]
    have hz : (hashesQ c0 L)[i]? = some (c0 q) := by
      rw [hashesQ, List.getElem?_map, hp, ← pq]
      rfl
    have hil : i < t.place.toList.length := by rw [Array.length_toList, T.places]; exact hi
    obtain ⟨c, hc, e2⟩ := T.tab.before hK hz (List.getElem?_eq_getElem hil)
    refine hno c i hc ?_ ((hashAt i p hp).trans (by rw [pq]))
    rw [List.getElem?_eq_getElem hil, ← e2]
end
end L2

namespace L2
open PySem PySem.Spec PyProof.Rows
section
variable {P : Program} {c0 : QK → Int} {w : World} {A : Around} {E : Value → Shared → Prop} {s : Shared} {a : Addr} {L : List (Addr × QK)} {es : Array (Int × Value)} {ep : Nat} {t : SetTable}
/-- looking for a pair -/
theorem findQ (T : TabQ c0 w s.heap a L es ep t) (tup : ∀ p ∈ L, IsQ P w s.heap p.2 p.1) {x : Addr} {q : QK} (hx : IsQ P w s.heap q x) (inj : ∀ p ∈ L, c0 p.2 = c0 q → p.2 = q) (hu : A.units < cLine) {Q : Option Nat → Shared → Prop}
    (yes : ∀ r : Option Nat, r.isSome = decide (q ∈ L.map (·.2)) → Q r s) : wpAny (model P w) A (setFind a (.ref x) (c0 q)) Q E s := by
  obtain ⟨o, ho, hex, hd⟩ := T.ob
  unfold setFind
  rw [show (100000 : Nat) = 99999 + 1 from rfl]
  unfold setFindIn
  refine wpAny_bind (wpAny_setState_of ho hd T.fits ?_)
  dsimp only
  refine wp_if_neg (by simp [byScan, Value.scannable]) ?_
  try refine wpAny_bind (wpAny_pure ?_)
  refine wpAny_bind (searchQ T tup hx inj hu (adding := false) (fun hm r hr => ?_) (fun K hm _ _ => ?_) 99999)
  · exact wpAny_pure (yes r (by rw [hr rfl, decide_eq_true hm]))
  · exact wpAny_pure (yes none (by rw [decide_eq_false hm]; rfl))
theorem pair_same {h h' : Heap} {q : QK} {a b : Addr} {o : Obj} {es : Array (Int × Value)} {ep : Nat} {t : SetTable} (hb : IsQ P w h q b) (ho : h.get? a = some o) (hd : o.data = .set es ep t) (sb : Heap.SameBut a h h') : IsQ P w h' q b := by
  obtain ⟨o2, its, n, h2, hc, hd2, hi⟩ := hb
  refine ⟨o2, its, n, (sb.2 b ?_).trans h2, hc, hd2, hi⟩
  rintro rfl
  rw [Option.some.inj (ho.symm.trans h2), hd2] at hd
  cases hd
theorem rowsQ_put (p : Nat) (x : Addr) (q : QK) : rowsQ c0 (L.take p ++ (x, q) :: L.drop p) = (rowsQ c0 L).take p ++ (c0 q, Value.ref x) :: (rowsQ c0 L).drop p := by
  rw [rowsQ, rowsQ, List.map_append, List.map_take, List.map_cons, List.map_drop]
theorem hashesQ_put (p : Nat) (x : Addr) (q : QK) : hashesQ c0 (L.take p ++ (x, q) :: L.drop p) = (hashesQ c0 L).take p ++ c0 q :: (hashesQ c0 L).drop p := by
  rw [hashesQ, hashesQ, List.map_append, List.map_take, List.map_cons, List.map_drop]
/-- adding a pair to at most three -/
theorem addQ (T : TabQ c0 w s.heap a L es ep t) (tup : ∀ p ∈ L, IsQ P w s.heap p.2 p.1) {x : Addr} {q : QK} (hx : IsQ P w s.heap q x) (inj : ∀ p ∈ L, c0 p.2 = c0 q → p.2 = q) (hu : A.units < cLine) (few : L.length + 1 ≤ 4) {Q : Bool → Shared → Prop}
    (old : q ∈ L.map (·.2) → Q false s) (new : ∀ h' L' es' ep' t', Heap.SameBut a s.heap h' → TabQ c0 w h' a L' es' ep' t' → L'.Perm ((x, q) :: L) → Q true { s with heap := h' }) :
    wpAny (model P w) A (setAddHashed a (.ref x) (c0 q)) Q E s := by
  obtain ⟨o, ho, hex, hd⟩ := T.ob
  unfold setAddHashed
  refine wpAny_holding ?_
  rw [show (100000 : Nat) = 99999 + 1 from rfl, setAddHashedIn_succ]
  refine wpAny_bind (wpAny_setState_of ho hd T.fits ?_)
  dsimp only
  refine wp_if_neg (by simp [byScan, Value.scannable]) ?_
  try refine wpAny_bind (wpAny_pure ?_)
  unfold setSearch
  refine wpAny_bind (searchQ T tup hx inj hu (adding := true) (fun hm r _ => ?_) (fun K hm hK hKb => ?_) 99999)
  · dsimp only
    exact wpAny_pure (old hm)
  · dsimp only
    refine wpAny_bind (wpAny_setState_of ho hd T.fits ?_)
    dsimp only
    obtain ⟨q1, q2, q3, q4, q5, q6, q7, q8, q9⟩ := T.tab.put hK hKb
    generalize hj : way t.mask (c0 q) K = j at q1 q2 q3 q4 q5 q6 q7 q8 q9 ⊢
    have p1 : (t.put j).1.plain = true := q6.trans T.plain
    have m1 : (t.put j).1.mask = 7 := q4.trans T.m7
    have l1 : w.params.followText "set-order" = true ∨ (t.put j).1.led = true := by rw [q5]; exact T.led
    have f1 : (t.put j).1.fill = L.length + 1 := by rw [q9, hashesQ, List.length_map]
    generalize t.put j = tp at q1 q3 p1 m1 l1 f1 ⊢
    obtain ⟨t1, p⟩ := tp
    dsimp only at q1 q3 p1 m1 l1 f1 ⊢
    subst q1
    generalize SetTable.below t.place j = p at q2 q3 ⊢
    first
      | (refine wpAny_bind ?_; refine wp_if_pos p1 ?_; refine byValQ hx ?_)
      | refine wp_if_pos p1 (wpAny_bind (byValQ hx ?_))
    simp only [if_true]
    have e1 : (SetTable.insertAt es p (c0 q, Value.ref x)).toList = rowsQ c0 (L.take p ++ (x, q) :: L.drop p) := by
      rw [SetTable.toList_insertAt, rowsQ_put, T.rows]
    rw [← hashesQ_put (x := x)] at q3
    have pm := put_perm L p (x, q)
    have z1 : (SetTable.insertAt es p (c0 q, Value.ref x)).size = L.length + 1 := by
      have e := congrArg List.length e1
      rw [Array.length_toList, rowsQ, List.length_map, pm.length_eq] at e
      exact e
    generalize SetTable.insertAt es p (c0 q, Value.ref x) = es1 at e1 z1 ⊢
    generalize L.take p ++ (x, q) :: L.drop p = L1 at pm q3 e1
    have n1 : L1.length = L.length + 1 := pm.length_eq
    refine wpAny_bind (wpAny_storeSet_of ho hd ?_ (by rw [z1, sizeLine_eq]; omega))
    have sb : Heap.SameBut a s.heap (s.heap.update a (Obj.putSet es1 t1)) := Heap.SameBut.update ..
    have ho1 := store_at (es' := es1) (t' := t1) ho hd
    generalize s.heap.update a (Obj.putSet es1 t1) = h1 at sb ho1 ⊢
    have nf : ¬ t1.tooFull = true := by
      unfold SetTable.tooFull
      rw [f1, m1, decide_eq_true_eq]
      omega
    have end1 := new h1 L1 es1 (ep + 1) t1 sb ⟨⟨_, ho1, ⟨hex.1, hex.2.1, hex.2.2⟩, rfl⟩, e1, q3, p1, l1, m1, by omega⟩ pm
    first
      | exact wp_if_neg (by simp [nf]) (wpAny_pure end1)
      | (refine wpAny_bind ?_; exact wp_if_neg (by simp [nf]) (wpAny_pure (wpAny_pure end1)))
theorem tabQ_new {h : Heap} {a : Addr} (ho : h.get? a = some { cls := .type "set", dict := none, data := .set #[] 0 (.fresh 0 0 (!w.params.followText "set-order")) }) : TabQ c0 w h a [] #[] 0 (.fresh 0 0 (!w.params.followText "set-order")) := by
  refine ⟨⟨_, ho, ⟨rfl, rfl, rfl⟩, rfl⟩, rfl, ⟨List.Pairwise.nil, rfl, rfl, .inl rfl, fun x hx => (by cases hx), fun i h j hi => (by simp [hashesQ] at hi)⟩, rfl, ?_, rfl, Nat.zero_le _⟩
  show _ ∨ (!w.params.followText "set-order") = true
  cases w.params.followText "set-order"
  · exact .inr rfl
  · exact .inl rfl
theorem TabQ.keep {h h' : Heap} (T : TabQ c0 w h a L es ep t) (k : ∀ o, h.get? a = some o → h'.get? a = some o) : TabQ c0 w h' a L es ep t := by
  obtain ⟨o, ho, r⟩ := T.ob
  exact ⟨⟨o, k o ho, r⟩, T.rows, T.tab, T.plain, T.led, T.m7, T.few⟩
end
end L2

namespace L2
open PySem PySem.Spec PyProof.Rows
def gQ (n : Nat) (b : Bool) : Int := reduceHash (Builtin.Tuple.tupleHashOf [hashInt n, hashInt (if b = true then 1 else 0)])
theorem gQ_inj : ∀ m, m < 10 → ∀ n, n < 10 → ∀ b c, gQ m b = gQ n c → m = n ∧ b = c := by decide +kernel
def cHash (P : Program) (w : World) : QK → Int := fun q => tupleKeyHash (leafKind P w) (kQ q)
theorem cHash_def (P : Program) (w : World) (q : QK) : tupleKeyHash (leafKind P w) (kQ q) = cHash P w q := rfl
theorem cHash_eq (P : Program) (w : World) (n : Nat) (b : Bool) : cHash P w (n, b) = gQ n b := by
  unfold cHash tupleKeyHash gQ kQ
  rfl
theorem cHash_inj {P : Program} {w : World} {p q : QK} (hp : p.1 < 10) (hq : q.1 < 10) (e : cHash P w p = cHash P w q) : p = q := by
  obtain ⟨m, b⟩ := p
  obtain ⟨n, c⟩ := q
  rw [cHash_eq, cHash_eq] at e
  obtain ⟨rfl, rfl⟩ := gQ_inj m hp n hq b c e
  rfl
/-- the set of pairs at a -/
def SetQ (P : Program) (w : World) (a : Addr) (L : List (Addr × QK)) : HO := .ext fun h => ∃ es ep t, TabQ (cHash P w) w h a L es ep t
theorem setQ_new {P : Program} {w : World} {H : Hp} {h : Heap} {a : Addr} {L : List (Addr × QK)} {es : Array (Int × Value)} {ep : Nat} {t : SetTable} (T : TabQ (cHash P w) w h a L es ep t) : ObjOk P w H h a (SetQ P w a L) := by
  have ⟨o, ho, _⟩ := T.ob
  exact ⟨⟨_, _, _, T⟩, ⟨o, ho⟩, fun h1 h2 ⟨es, ep, t, T1⟩ k => ⟨es, ep, t, T1.keep k⟩⟩
def qV (q : QK) : List V := [.int q.1, .bl q.2]
section
variable {X : Cx}
theorem setQ_get {pins : List (Addr × Obj)} {σ : L2.St} {H : Hp} {s : Shared} {a : Addr} {L : List (Addr × QK)} (I : Inv X pins σ H s) (ha : H a = some (SetQ X.prog X.w a L)) : ∃ es ep t, TabQ (cHash X.prog X.w) X.w s.heap a L es ep t := (I.hok a _ ha).1
theorem Inv.isQ {pins : List (Addr × Obj)} {σ : L2.St} {H : Hp} {s : Shared} {b : Addr} {q : QK} (I : Inv X pins σ H s) (h : SqT X.K H b (qV q)) : IsQ X.prog X.w s.heap q b := by
  obtain ⟨its, r, ⟨o, ho, hc, n, hd⟩, _⟩ := I.tuple h
  refine ⟨o, its.toArray, n, ho, hc, hd, ?_⟩
  cases r with
  | cons r1 t1 =>
    cases t1 with
    | cons r2 t2 =>
      cases t2
      obtain ⟨tk, rfl⟩ := r1
      cases r2
      refine .cons ?_ (.cons ?_ .nil)
      · exact decide_eq_true rfl
      · exact decide_eq_true rfl
/-- set() -/
def rSet0Q (P : Program) (w : World) : List V → Hp → VK → Prop := fun xs H Q => xs = [] ∧ ∀ p, H p = none → Q (.ref p) (upd H p (SetQ P w p []))
theorem cr_set0Q : CallR X (.type "set") (rSet0Q X.prog X.w) := by
  intro pins s σ H xs us Q I r h
  obtain ⟨rfl, yes⟩ := h
  cases r
  refine setR_new fun _ => ?_
  have T := tabQ_new (c0 := cHash X.prog X.w) (w := X.w) (a := s.heap.objs.size) (h := s.heap.push { cls := .type "set", dict := none, data := .set #[] 0 (.fresh 0 0 (!X.w.params.followText "set-order")) }) (Heap.get?_push_size _ rfl)
  exact ⟨.ref _, upd H s.heap.objs.size (SetQ X.prog X.w s.heap.objs.size []), I.laid (t' := s.toks) (fun b u e => Heap.get?_push_of_some _ e) (Nat.le_refl _) (setQ_new T), rfl, yes _ (I.hok.fresh (Nat.le_refl _))⟩
/-- the pair at p, the set at a -/
def QIn (K : PySem.W.Frag) (P : Program) (w : World) (x y : V) (H : Hp) (p a : Addr) (q : QK) (L : List (Addr × QK)) : Prop := x = .ref p ∧ y = .ref a ∧ SqT K H p (qV q) ∧ H a = some (SetQ P w a L) ∧ (∀ r ∈ L, SqT K H r.1 (qV r.2)) ∧ q.1 < 10 ∧ ∀ r ∈ L, r.2.1 < 10
/-- p in found -/
def rInQ (K : PySem.W.Frag) (P : Program) (w : World) : R2 := fun x y H Q => ∃ p a q L, QIn K P w x y H p a q L ∧ Q (.bl (decide (q ∈ L.map (·.2)))) H
theorem op_inQ (hu : X.A.units + 65 < cLine) : OpR X (compareOp .In) (rInQ X.K X.prog X.w) := by
  intro pins s σ H x y v u Q I rx ry h
  obtain ⟨p, a, q, L, ⟨rfl, rfl, sp, ha, sl, b1, b2⟩, yes⟩ := h
  cases rx
  cases ry
  obtain ⟨es, ep, t, T⟩ := setQ_get I ha
  obtain ⟨o, ho, hex, hd⟩ := T.ob
  have ty : s.TypeIs (.ref a) "set" := ⟨o, ho, hex.1⟩
  have kp := I.isQ sp
  show wpAny _ _ (do return Value.bool (← contains (Value.ref a) (Value.ref p))) _ _ s
  refine wpAny_bind ?_
  unfold contains
  try with_reducible refine wpAny_holding ?_
  refine wpAny_bind (wpAny_specialOf ty F.slot_set_contains.lookup ?_)
  refine wp_if_neg (by rw [beq_builtin_none]; exact Bool.false_ne_true) ?_
  refine wpAny_bind (wpAny_callSpecialUnlessNone?_slot (name := Str.ofString "__contains__") ty F.slot_set_contains
    (wpAny_call_entry F.slot_set_contains ty entry_set_contains ?_ (F.args_set_contains_2 _ _)))
  unfold Builtin.«frozenset.__contains__» Builtin.Frozenset.oneOther
  simp only [bind_assoc, List.isEmpty_nil]
  unfold Builtin.Frozenset.addrOf Builtin.Frozenset.withSetAsKey setContains
  refine wpAny_bind (wpAny_pure ?_)
  try dsimp only
  refine wpAny_bind (wpAny_pure ?_)
  try dsimp only
  refine wpAny_bind (wpAny_tryCatch ?_)
  refine wpAny_holding ?_
  refine wpAny_bind (wpAny_pyHash_tuple (Nat.lt_of_le_of_lt (Nat.add_le_add_left (by decide : 1 ≤ 65) _) hu) kp ?_)
  have tup : ∀ r ∈ L, IsQ X.prog X.w s.heap r.2 r.1 := fun r hr => I.isQ (sl r hr)
  rw [cHash_def]
  refine wpAny_bind (findQ (s := { s with toks := s.toks + ((kQ q).length + 1) }) (c0 := cHash X.prog X.w) T tup kp (fun r hr e => cHash_inj (b2 r hr) b1 e) (Nat.lt_of_le_of_lt (Nat.add_le_add_left (by decide : 1 ≤ 65) _) hu) fun r hr => ?_)
  refine wpAny_pure ?_
  show wpAny _ _ (ret (Value.bool r.isSome)) _ _ _
  rw [hr]
  exact wpAny_pure ⟨_, rfl, wpAny_truthy_bool (wpAny_pure ⟨.bl (decide (q ∈ L.map (fun x : Addr × QK => x.2))), H, I.tok _, rfl, yes⟩)⟩
/-- found.add(p) -/
def rAddQ (K : PySem.W.Frag) (P : Program) (w : World) : V → List V → Hp → VK → Prop := fun y xs H Q => ∃ x p a q L, xs = [x] ∧ QIn K P w x y H p a q L ∧ q ∉ L.map (·.2) ∧ L.length + 1 ≤ 4 ∧ ∀ L', L'.Perm ((p, q) :: L) → Q .non (upd H a (SetQ P w a L'))
theorem mt_addQ (hu : X.A.units + 65 < cLine) : MtR X "set.add" (rAddQ X.K X.prog X.w) := by
  intro pins s σ H y xs v us Q I ry rxs h
  obtain ⟨x, p, a, q, L, rfl, ⟨rfl, rfl, sp, ha, sl, b1, b2⟩, nw, few, yes⟩ := h
  cases ry
  cases rxs with
  | cons rx rt =>
    cases rt
    cases rx
    obtain ⟨es, ep, t, T⟩ := setQ_get I ha
    obtain ⟨o, ho, hex, hd⟩ := T.ob
    have ty : s.TypeIs (.ref a) "set" := ⟨o, ho, hex.1⟩
    have kp := I.isQ sp
    have tup : ∀ r ∈ L, IsQ X.prog X.w s.heap r.2 r.1 := fun r hr => I.isQ (sl r hr)
    refine wpAny_call_entry F.slot_set_add ty F.entry_set_add ?_ (F.args_set_add_2 _ _)
    unfold Builtin.«set.add» Builtin.Frozenset.oneOther
    simp only [bind_assoc, List.isEmpty_nil]
    unfold Builtin.Frozenset.addrOf setAdd
    refine wpAny_bind (wpAny_pure ?_)
    try dsimp only
    refine wpAny_bind (wpAny_pure ?_)
    try dsimp only
    refine wpAny_bind ?_
    refine wpAny_holding ?_
    refine wpAny_bind (wpAny_pyHash_tuple (Nat.lt_of_le_of_lt (Nat.add_le_add_left (by decide : 1 ≤ 65) _) hu) kp ?_)
    rw [cHash_def]
    refine addQ (s := { s with toks := s.toks + ((kQ q).length + 1) }) (c0 := cHash X.prog X.w) T tup kp (fun r hr e => cHash_inj (b2 r hr) b1 e) (Nat.lt_of_le_of_lt (Nat.add_le_add_left (by decide : 1 ≤ 65) _) hu) few (fun z => absurd z nw) fun h' L' es' ep' t' sb T' pm => ?_
    show wpAny _ _ (ret Value.none) _ _ _
    have he : ∃ u, h'.get? a = some u := let ⟨o, z, _⟩ := T'.ob; ⟨o, z⟩
    exact wpAny_pure ⟨_, rfl, .non, upd H a (SetQ X.prog X.w a L'), I.write (e := a) (t' := _) (by rw [ha]; trivial) (.inl rfl) (fun b u hb hu => (sb.2 b hb).trans hu) he (setQ_new T'), rfl, yes L' pm⟩
def tAddQ (K : PySem.W.Frag) (P : Program) (w : World) (to : TE) (t : TA) : TE := fun σ H Q => to σ H fun x H1 => (∃ a L, x = V.ref a ∧ H1 a = some (SetQ P w a L)) ∧ t σ H1 fun xs H2 => rAddQ K P w x xs H2 Q
variable {o e : Expr} {es : List Expr} {to : TE} {t : TA} {apos cpos : Pos}
theorem pe_addQ (hu : X.A.units + 65 < cLine) (ho : PE X o to) (ha : PA X (e :: es) t)
    (hb : attributeBase o "add" X.env (eval o X.env) = eval o X.env := by rfl)
    (hf : ((backTo cpos (starEach (e :: es) X.env)).all (fun x => !x.1) && (backToKw cpos (keywordEach [] X.env)).all (fun x => x.1.isSome)
      && decide ((e :: es).length + ([] : List Keyword).length + (if ([] : List Keyword).isEmpty then 0 else 1) < 30)) = true := by rfl)
    (hl : (apos.endLine == cpos.line) = true := by rfl) (hs : starEach (e :: es) X.env = (false, eval e X.env) :: starEach es X.env := by rfl) (hp : (backTo cpos (starEach es X.env)).any (·.1) = false := by rfl) :
    PE X (.Call (.Attribute o "add" apos) (e :: es) [] cpos) (tAddQ X.K X.prog X.w to t) := by
  refine ⟨fun pins s σ H Q I h => ?_⟩
  refine wpAny_Call_method_late hb hf hl rfl (thn (ho.run pins s σ H _ I h) fun v s1 ⟨x, H1, I1, r1, ty, q1⟩ => ?_)
  obtain ⟨a, L, rfl, ka⟩ := ty
  obtain ⟨es1, ep, tt, T⟩ := setQ_get I1 ka
  obtain ⟨ob, hob, hex, _⟩ := T.ob
  cases r1
  refine ⟨"set", "set.add", F.plainAttrs_set, F.slot_set_add, F.type_set_add, ⟨ob, hob, hex.1⟩, (fun b z => by injection z with z; subst z; exact ⟨ob, hob, hex.2.1⟩), ?_⟩
  have run := ha.run cpos pins s1 σ H1 _ I1 q1
  rw [hs] at run ⊢
  refine Calls.callWith_builtin (by show (false || (backTo cpos (starEach es X.env)).any (·.1)) = false; rw [hp]; rfl) (Calls.evalArgs_plain ?_)
  exact thn run fun us s2 ⟨vs, H2, I2, r2, q2⟩ => mt_addQ hu pins s2 σ H2 (.ref a) vs (.ref a) us Q I2 rfl r2 q2
end
end L2

namespace Fm
open PySem PySem.Spec PyProof.Rows L2
def endsM (f : Str) : Bool := inV (.str f) [.str "stop", .str "quit"]
def pushIf (Ls : List LineM) (n : Nat) (g : Bool) : List QK := if (lineAt Ls n).form = "if" then [((lineAt Ls n).oth, g)] else []
def pushThen (Ls : List LineM) (n : Nat) (g : Bool) : List QK := if endsM (lineAt Ls n).form = true then [] else [((lineAt Ls n).thn, g || decide ((lineAt Ls n).form = "go"))]
def behindM : Nat → List LineM → Nat → List QK → List QK → List Nat → Option (List Nat)
  | 0, _, _, _, _, _ => none
  | k + 1, Ls, h, wt, sn, late => match wt.getLast? with
    | none => some late
    | some q =>
      if q.1 = h then behindM k Ls h wt.dropLast sn late
      else if 10 ≤ q.1 then none
      else if q ∈ sn then behindM k Ls h wt.dropLast sn late
      else if q.1 = 0 ∨ Ls.length < q.1 ∨ 4 ≤ sn.length then none
      else behindM k Ls h ((wt.dropLast ++ pushIf Ls q.1 q.2) ++ pushThen Ls q.1 q.2) (q :: sn) (if q.2 = true then late ++ [q.1] else late)
end Fm
namespace K40
open PySem PySem.Spec PyProof.Rows L2 Fm PySem.RingX
/-- between two turns: w what waits, y the numbers, x the set -/
structure InvB (P : Program) (w0 : World) (H0 H : Hp) (w y x : Addr) (W L : List (Addr × QK)) (late : List Nat) : Prop where
  sm : Same H0 H
  hw : H w = some (.lst (W.map fun p => V.ref p.1))
  hy : H y = some (.lst (intL late))
  hx : H x = some (SetQ P w0 x L)
  ew : ∀ p ∈ W, H p.1 = some (.tup (qV p.2))
  el : ∀ p ∈ L, H p.1 = some (.tup (qV p.2))
section
variable {P : Program} {w0 : World} {H0 H : Hp} {w y x : Addr} {W L : List (Addr × QK)} {late : List Nat}
theorem InvB.same {H' : Hp} (I : InvB P w0 H0 H w y x W L late) (s : Same H H') : InvB P w0 H0 H' w y x W L late :=
  ⟨I.sm.trans s, s _ _ I.hw, s _ _ I.hy, s _ _ I.hx, fun p hp => s _ _ (I.ew p hp), fun p hp => s _ _ (I.el p hp)⟩
theorem tup_keep {a b : Addr} {xs : List V} {o u : HO} (h : H a = some (.tup xs)) (hb : H b = some u) (nt : ∀ zs, u ≠ .tup zs) : upd H b o a = some (.tup xs) := by
  rw [upd_ne]
  · exact h
  · rintro rfl
    exact nt _ (Option.some.inj (hb.symm.trans h))
theorem InvB.setW {W' : List (Addr × QK)} (I : InvB P w0 H0 H w y x W L late) (nwy : w ≠ y) (nwx : w ≠ x) (z0 : H0 w = none) (hn : ∀ p ∈ W', H p.1 = some (.tup (qV p.2))) : InvB P w0 H0 (upd H w (.lst (W'.map fun p => V.ref p.1))) w y x W' L late := by
  exact ⟨I.sm.updl z0, upd_same, by rw [upd_ne (Ne.symm nwy)]; exact I.hy, by rw [upd_ne (Ne.symm nwx)]; exact I.hx, fun p hp => tup_keep (hn p hp) I.hw (fun _ z => nomatch z), fun p hp => tup_keep (I.el p hp) I.hw (fun _ z => nomatch z)⟩
/-- a new pair is pushed -/
theorem InvB.push {q : QK} {p : Addr} (I : InvB P w0 H0 H w y x W L late) (nwy : w ≠ y) (nwx : w ≠ x) (z0 : H0 w = none) (hp : H p = none) : InvB P w0 H0 (upd (upd H p (.tup (qV q))) w (.lst ((W.map fun p => V.ref p.1) ++ [V.ref p]))) w y x (W ++ [(p, q)]) L late := by
  have I1 := I.same (same_upd (o := .tup (qV q)) hp)
  have e := I1.setW (W' := W ++ [(p, q)]) nwy nwx z0 fun r hr => by
    rcases List.mem_append.mp hr with hr | hr
    · exact I1.ew r hr
    · rw [List.mem_singleton.mp hr]; exact upd_same
  rwa [List.map_append] at e
theorem InvB.setY {late' : List Nat} (I : InvB P w0 H0 H w y x W L late) (nwy : w ≠ y) (nyx : y ≠ x) (y0 : H0 y = none) : InvB P w0 H0 (upd H y (.lst (intL late'))) w y x W L late' := by
  exact ⟨I.sm.updl y0, by rw [upd_ne nwy]; exact I.hw, upd_same, by rw [upd_ne (Ne.symm nyx)]; exact I.hx, fun p hp => tup_keep (I.ew p hp) I.hy (fun _ z => nomatch z), fun p hp => tup_keep (I.el p hp) I.hy (fun _ z => nomatch z)⟩
theorem InvB.setX {L' : List (Addr × QK)} (I : InvB P w0 H0 H w y x W L late) (nwx : w ≠ x) (nyx : y ≠ x) (x0 : H0 x = none) (hn : ∀ p ∈ L', H p.1 = some (.tup (qV p.2))) : InvB P w0 H0 (upd H x (SetQ P w0 x L')) w y x W L' late := by
  exact ⟨I.sm.updl x0, by rw [upd_ne nwx]; exact I.hw, by rw [upd_ne nyx]; exact I.hy, upd_same, fun p hp => tup_keep (I.ew p hp) I.hx (fun _ z => nomatch z), fun p hp => tup_keep (hn p hp) I.hx (fun _ z => nomatch z)⟩
end
section
variable {P : Program} {w : World} {K : PySem.W.Frag} {mg : Str → Option Value} {base : Heap}
def nBG : List Str := ["program", "head", "seen", "late", "waiting", "number", "gone", "line"]
def spBehind (K : PySem.W.Frag) (C : Addr) : Sp := fun vs H Q _ => ∃ (t : Addr) (h : Nat) (ps : List Addr) (Ls : List LineM) (k : Nat) (late : List Nat), vs = [.ref t, .int h] ∧ SqT K H t (ps.map V.ref) ∧ Objs K C H ps Ls ∧ 1 ≤ h ∧ h ≤ Ls.length ∧ k ≤ 100000 ∧ behindM k Ls h [((lineAt Ls h).thn, false)] [] [] = some late ∧
  ∀ (p : Addr) (H' : Hp), H p = none → Same H H' → H' p = some (.lst (intL late)) → Q (.ref p) H'
theorem scBehind : FnScope nBG ["program", "head"] (defScope s_behind_go) := ⟨rfl, rfl, rfl, by decide +kernel, rfl, by decide +kernel, by decide +kernel⟩
theorem ok_behind {C : Addr} (R : Raw K mg "behind_go" s_behind_go ["program", "head"]) (T : GB mg) (TL : ClsT K mg C "Line" lineNames) : Def P w K mg base CX0 "behind_go" 1 ["program", "head"] (spBehind K C) := by
  refine R.def fun f fd F => F.ok scBehind (fun vs H Q E h => ?_) (fun cdv A outer s H vs Q E hr h => ?_)
  · obtain ⟨t, h, ps, Ls, k, late, rfl, _⟩ := h
    rfl
  · obtain ⟨t, hd, ps, Ls, k, late, rfl, sq, ob, hd1, hd2, hk, hw, kk⟩ := h
    have pl : ps.length = Ls.length := ob.len
    have hu65 : (A.deeper (envOfC "behind_go" (defScope s_behind_go) s.heap.objs.size f cdv)).units + 65 < cLine := by have := hr.un; omega
    obtain ⟨tF, pF, qF⟩ : ∃ tF, PSs (cxOf CX0 P w K mg base nBG "behind_go" (defScope s_behind_go) f cdv A outer s H E).nox ((whileB (nthS (defBody s_behind_go) 3)).drop 6) tF ∧
        ∀ (D : Ends) (y x z : Addr) (p : Addr) (q : QK) (W L : List (Addr × QK)) (late : List Nat) (H1 : Hp), z ≠ y → z ≠ x → H z = none → InvB P w H H1 z y x W L late → LineAt K C H1 p (lineAt Ls q.1) → W.length ≤ 300000 →
          (∀ W' H2, W'.map (·.2) = W.map (·.2) ++ pushThen Ls q.1 q.2 → InvB P w H H2 z y x W' L late → D.nx [some (.ref t), some (.int hd), some (.ref x), some (.ref y), some (.ref z), some (.int q.1), some (.bl q.2), some (.ref p)] H2) →
          tF D [some (.ref t), some (.int hd), some (.ref x), some (.ref y), some (.ref z), some (.int q.1), some (.bl q.2), some (.ref p)] H1 := by
      refine ⟨_, (pss_one (ps_if (pt_cmpR op_notIn_seq (pe_fld (pv 7) rfl) (pe_tup (pa_cons pe_str (pa_cons pe_str pa_nil))) (by rfl)) (pss_one (ps_expr (pe_bm PySem.F.plainAttrs_list PySem.F.slot_list_append PySem.F.type_list_append mt_append (pv 4) (pa_cons (pe_tup (pa_cons (pe_fld (pv 7) rfl) (pa_cons (pe_or (pv 6) (pe_one (pe_cmpR op_eq (pe_fld (pv 7) rfl) pe_str (nomark _)))) pa_nil))) pa_nil)))) pss_nil)), ?_⟩
      intro D y x z p q W L late H1 nzy nzx z0 I la hWl next
      obtain ⟨dx, vw, vt, hln, _⟩ := la
      refine ⟨_, rfl, p, C, dx, _, _, rfl, hln, TL.cl, TL.no _ (by simp [lineNames]), ln_form .., (by show 2 ≤ sizeLine; decide), fun q1 h1 => ?_⟩
      have s1 := same_upd (o := .tup [V.str "stop", V.str "quit"]) h1
      refine ⟨q1, _, rfl, .inr (SqT.of upd_same), rfl, by rfl, _, rfl, ?_⟩
      have I1 := I.same s1
      have hl1 := s1 _ _ hln
      generalize upd H1 q1 (.tup [V.str "stop", V.str "quit"]) = H2 at *
      rw [if_pos rfl]
      show if (!(endsM (lineAt Ls q.1).form)) = true then _ else _
      cases c : endsM (lineAt Ls q.1).form with
      | true => exact iteF (next W H2 (by simp [pushThen, c]) I1)
      | false =>
        refine iteT ⟨_, rfl, .inl ⟨rfl, _, SqL.of I1.hw⟩, _, rfl, p, C, dx, _, _, rfl, hl1, TL.cl, TL.no _ (by simp [lineNames]), ln_then .., ?_⟩
        have fin : ∀ b, b = (q.2 || decide ((lineAt Ls q.1).form = "go")) → ∀ r, H2 r = none → D.nx [some (.ref t), some (.int hd), some (.ref x), some (.ref y), some (.ref z), some (.int q.1), some (.bl q.2), some (.ref p)] (upd (upd H2 r (.tup [V.int (lineAt Ls q.1).thn, .bl b])) z (.lst ((W.map fun p => V.ref p.1) ++ [V.ref r]))) := fun b hb r hr => by
          refine next (W ++ [(r, ((lineAt Ls q.1).thn, b))]) _ ?_ (I1.push (q := ((lineAt Ls q.1).thn, b)) nzy nzx z0 hr)
          rw [List.map_append, hb]
          simp [pushThen, c]
        have bd : (W.map fun p => V.ref p.1).length + 1 ≤ sizeLine := by rw [List.length_map, sizeLine_eq]; omega
        cases hg : q.2 with
        | true =>
          rw [hg] at fin
          refine ⟨_, rfl, true, rfl, iteT ⟨(by show 2 ≤ sizeLine; decide), fun r hr => ⟨z, _, _, rfl, rfl, ?_, bd, ?_⟩⟩⟩
          · exact (same_upd hr) _ _ I1.hw
          · exact fin true (by rw [Bool.true_or]) r hr
        | false =>
          rw [hg] at fin
          refine ⟨_, rfl, false, rfl, iteF ⟨_, rfl, p, C, dx, _, _, rfl, hl1, TL.cl, TL.no _ (by simp [lineNames]), ln_form .., rfl, (by show 2 ≤ sizeLine; decide), fun r hr => ⟨z, _, _, rfl, rfl, ?_, bd, ?_⟩⟩⟩
          · exact (same_upd hr) _ _ I1.hw
          · have e : decide (V.str (lineAt Ls q.1).form = V.str "go") = decide ((lineAt Ls q.1).form = "go") := by
              by_cases z : (lineAt Ls q.1).form = "go"
              · rw [decide_eq_true z, decide_eq_true (congrArg V.str z)]
              · rw [decide_eq_false z, decide_eq_false fun k => z (V.str.inj k)]
            exact fin _ (by rw [Bool.false_or]; exact e) r hr
    obtain ⟨tE, pE, qE⟩ : ∃ tE, PSs (cxOf CX0 P w K mg base nBG "behind_go" (defScope s_behind_go) f cdv A outer s H E).nox ((whileB (nthS (defBody s_behind_go) 3)).drop 5) tE ∧
        ∀ (D : Ends) (y x z : Addr) (p : Addr) (q : QK) (W L : List (Addr × QK)) (late : List Nat) (H1 : Hp), z ≠ y → z ≠ x → H z = none → InvB P w H H1 z y x W L late → LineAt K C H1 p (lineAt Ls q.1) → W.length ≤ 200000 →
          (∀ W' H2, W'.map (·.2) = (W.map (·.2) ++ pushIf Ls q.1 q.2) ++ pushThen Ls q.1 q.2 → InvB P w H H2 z y x W' L late → D.nx [some (.ref t), some (.int hd), some (.ref x), some (.ref y), some (.ref z), some (.int q.1), some (.bl q.2), some (.ref p)] H2) →
          tE D [some (.ref t), some (.int hd), some (.ref x), some (.ref y), some (.ref z), some (.int q.1), some (.bl q.2), some (.ref p)] H1 := by
      refine ⟨_, pss_cons (ps_if (pt_cmpR op_eq (pe_fld (pv 7) rfl) pe_str (nomark _)) (pss_one (ps_expr (pe_bm PySem.F.plainAttrs_list PySem.F.slot_list_append PySem.F.type_list_append mt_append (pv 4) (pa_cons (pe_tup (pa_cons (pe_fld (pv 7) rfl) (pa_cons (pv 6) pa_nil))) pa_nil)))) pss_nil) pF, ?_⟩
      intro D y x z p q W L late H1 nzy nzx z0 I la hWl next
      obtain ⟨dx, vw, vt, hln, dd⟩ := id la
      refine ⟨_, rfl, p, C, dx, _, _, rfl, hln, TL.cl, TL.no _ (by simp [lineNames]), ln_form .., rfl, _, rfl, ?_⟩
      by_cases c : (lineAt Ls q.1).form = "if"
      · refine ifT (decide_eq_true (congrArg V.str c)) ⟨_, rfl, .inl ⟨rfl, _, SqL.of I.hw⟩, _, rfl, p, C, dx, _, _, rfl, hln, TL.cl, TL.no _ (by simp [lineNames]), ln_other .., _, rfl, (by show 2 ≤ sizeLine; decide), fun r hr => ⟨z, _, _, rfl, rfl, (same_upd hr) _ _ I.hw, (by rw [List.length_map, sizeLine_eq]; omega), ?_⟩⟩
        have I1 := I.push (q := ((lineAt Ls q.1).oth, q.2)) nzy nzx z0 hr
        have npz : p ≠ z := ne_of hln I.hw (fun z => nomatch z)
        have ext : ExtT H1 (upd (upd H1 r (.tup (qV ((lineAt Ls q.1).oth, q.2)))) z (.lst ((W.map fun p => V.ref p.1) ++ [V.ref r]))) := (ExtT.of (same_upd hr)).trans (ExtT.lst ((same_upd hr) _ _ I.hw))
        refine qF D y x z p q _ L late _ nzy nzx z0 I1 (la.keep ext ?_) (by rw [List.length_append]; show W.length + 1 ≤ _; omega) fun W' H2 e I2 => next W' H2 ?_ I2
        · rw [upd_ne npz, (same_upd hr) _ _ hln, hln]
        · rw [e, List.map_append, pushIf, if_pos c]
          rfl
      · refine ifF (decide_eq_false fun z => c (V.str.inj z)) ?_
        exact qF D y x z p q W L late H1 nzy nzx z0 I la (by omega) fun W' H2 e I2 => next W' H2 (by rw [e, pushIf, if_neg c, List.append_nil]) I2
    obtain ⟨tD, pD, qD⟩ : ∃ tD, PSs (cxOf CX0 P w K mg base nBG "behind_go" (defScope s_behind_go) f cdv A outer s H E).nox ((whileB (nthS (defBody s_behind_go) 3)).drop 2) tD ∧
        ∀ (D : Ends) (y x z : Addr) (x7 : Option V) (q : QK) (W L : List (Addr × QK)) (late : List Nat) (H1 : Hp), z ≠ y → z ≠ x → y ≠ x → H z = none → H y = none → H x = none → InvB P w H H1 z y x W L late → W.length ≤ 200000 → late.length ≤ 200000 → q ∉ L.map (·.2) → L.length + 1 ≤ 4 → q.1 < 10 → (∀ r ∈ L, r.2.1 < 10) → 1 ≤ q.1 → q.1 ≤ Ls.length →
          (∀ W' L' H2 p, W'.map (·.2) = (W.map (·.2) ++ pushIf Ls q.1 q.2) ++ pushThen Ls q.1 q.2 → (L'.map (·.2)).Perm (q :: L.map (·.2)) → InvB P w H H2 z y x W' L' (if q.2 = true then late ++ [q.1] else late) → D.nx [some (.ref t), some (.int hd), some (.ref x), some (.ref y), some (.ref z), some (.int q.1), some (.bl q.2), some (.ref p)] H2) →
          tD D [some (.ref t), some (.int hd), some (.ref x), some (.ref y), some (.ref z), some (.int q.1), some (.bl q.2), x7] H1 := by
      refine ⟨_, pss_cons (ps_expr (pe_addQ hu65 (pv 2) (pa_cons (pe_tup (pa_cons (pv 5) (pa_cons (pv 6) pa_nil))) pa_nil)))
        (pss_cons (ps_set (i := 7) scBehind.nd rfl (Or.inl rfl) (pe_ix ix_tup (pv 0) (pe_op op_sub (pv 5) pe_int) (fun _ _ => rfl)))
        (pss_cons (ps_if (pt_val (pv 6)) (pss_one (ps_expr (pe_bm PySem.F.plainAttrs_list PySem.F.slot_list_append PySem.F.type_list_append mt_append (pv 3) (pa_cons (pv 5) pa_nil)))) pss_nil) pE)), ?_⟩
      intro D y x z x7 q W L late H1 nzy nzx nyx z0 y0 x0 I hWl hll nq few b1 b2 n1 n2 next
      refine ⟨_, rfl, ⟨x, L, rfl, I.hx⟩, _, rfl, _, rfl, (by show 2 ≤ sizeLine; decide), fun r hr => ?_⟩
      have s1 := same_upd (o := .tup (qV q)) hr
      have I1 := I.same s1
      have hr1 : upd H1 r (.tup (qV q)) r = some (.tup (qV q)) := upd_same
      refine ⟨_, r, x, q, L, rfl, ⟨rfl, rfl, SqT.of hr1, I1.hx, fun p hp => SqT.of (I1.el p hp), b1, b2⟩, nq, few, fun L' pm => ?_⟩
      have I2 := I1.setX (L' := L') nzx nyx x0 fun p hp => by
        rcases List.mem_cons.mp (pm.mem_iff.mp hp) with e | hp
        · rw [e]; exact hr1
        · exact I1.el p hp
      have pm2 : (L'.map (·.2)).Perm (q :: L.map (·.2)) := pm.map (·.2)
      have ob2 := ob.same I2.sm
      obtain ⟨p, hp, _, la⟩ := ob2.at_ n1 n2
      have at1 : atI (ps.map V.ref) ((q.1 : Int) - 1) = some (.ref p) := by
        rw [show (q.1 : Int) - 1 = ((q.1 - 1 : Nat) : Int) by omega]
        exact atI_nat (by rw [List.getElem?_map, hp]; rfl)
      refine ⟨_, rfl, _, rfl, _, _, rfl, rfl, t, _, _, .ref p, rfl, rfl, I2.sm.sqT sq, at1, ?_⟩
      refine ⟨_, rfl, _, rfl, ?_⟩
      by_cases hg : q.2 = true
      · rw [if_pos hg] at next
        refine ifT hg ⟨_, rfl, .inl ⟨rfl, _, SqL.of I2.hy⟩, _, rfl, y, _, _, rfl, rfl, I2.hy, (by show (late.map _).length + 1 ≤ _; rw [List.length_map, sizeLine_eq]; omega), ?_⟩
        have I3 := I2.setY (late' := late ++ [q.1]) nzy nyx y0
        have e3 : intL (late ++ [q.1]) = intL late ++ [V.int q.1] := by show (late ++ [q.1]).map _ = _; rw [List.map_append]; rfl
        rw [e3] at I3
        have npy : p ≠ y := by
          obtain ⟨dx, vw, vt, hln, dd⟩ := id la
          exact ne_of hln I2.hy (fun z => nomatch z)
        exact qE D y x z p q W L' (late ++ [q.1]) _ nzy nzx z0 I3 (la.keep (ExtT.lst I2.hy) (upd_ne npy)) hWl fun W' H3 e I4 => next W' L' H3 p e pm2 I4
      · rw [if_neg hg] at next
        refine ifF (Bool.eq_false_iff.mpr hg) ?_
        exact qE D y x z p q W L' late _ nzy nzx z0 I2 la hWl fun W' H3 e I4 => next W' L' H3 p e pm2 I4
    have sx1 : ∀ {H1 : Hp} {a : Addr}, Same H H1 → H1 a = none → H a = none := fun {H1 a} sm h => by
      cases e : H a with
      | none => rfl
      | some u => rw [sm _ _ e] at h; cases h
    refine ⟨_, pss_cons (ps_set (i := 2) scBehind.nd rfl (Or.inl rfl) (pe_callTy0 cr_set0Q (by rfl) T.set (by decide +kernel)))
      (pss_cons (ps_set (i := 3) scBehind.nd rfl (Or.inl rfl) (pe_lst pa_nil))
      (pss_cons (ps_set (i := 4) scBehind.nd rfl (Or.inl rfl) (pe_lst (pa_cons (pe_tup (pa_cons (pe_fld (pe_ix ix_tup (pv 0) (pe_op op_sub (pv 1) pe_int) (fun _ _ => rfl)) rfl) (pa_cons pe_bl pa_nil))) pa_nil)))
      (pss_cons (ps_while PassesOwn.never (pt_cmpR op_gt (pe_callB call_len_seq (by rfl) T.len PySem.boot_len (pa_cons (pv 4) pa_nil)) pe_int (nomark _))
        (pss_cons (ps_asg (pe_bm0 PySem.F.plainAttrs_list PySem.F.slot_list_pop PySem.F.type_list_pop mt_pop (pv 4)) (pg_tup rfl (pgs_cons (pg_name (i := 5) scBehind.nd rfl (Or.inl rfl)) (pgs_cons (pg_name (i := 6) scBehind.nd rfl (Or.inl rfl)) pgs_nil))))
        (pss_cons (ps_if (PW.pt (pw_or (pt_cmpR op_eq (pv 5) (pv 1) (nomark _)) (pw_or1 (pt_cmpR (op_inQ hu65) (pe_tup (pa_cons (pv 5) (pa_cons (pv 6) pa_nil))) (pv 2) (by rfl))))) (pss_one ps_continue) pss_nil)
        pD)))
      (pss_one (ps_ret (pv 3)))))), ?_⟩
    obtain ⟨p0, hp0, _, dx0, vw0, vt0, hl0, dw0, dt0⟩ := ob.at_ hd1 hd2
    have at0 : atI (ps.map V.ref) ((hd : Int) - 1) = some (.ref p0) := by
      rw [show (hd : Int) - 1 = ((hd - 1 : Nat) : Int) by omega]
      exact atI_nat (by rw [List.getElem?_map, hp0]; rfl)
    refine ⟨rfl, fun x hx => ?_⟩
    have s1 : Same H (upd H x (SetQ P w x [])) := same_upd hx
    refine ⟨(by show 0 ≤ sizeLine; decide), fun y hy => ?_⟩
    have s2 : Same (upd H x (SetQ P w x [])) (upd (upd H x (SetQ P w x [])) y (.lst [])) := same_upd hy
    have s12 := s1.trans s2
    refine ⟨_, rfl, _, rfl, _, _, rfl, rfl, t, _, _, .ref p0, rfl, rfl, s12.sqT sq, at0, p0, C, dx0, _, _, rfl, s12 _ _ hl0, TL.cl, TL.no _ (by simp [lineNames]), ln_then .., (by show 2 ≤ sizeLine; decide), fun r hr => ?_⟩
    have s3 : Same (upd (upd H x (SetQ P w x [])) y (.lst [])) (upd (upd (upd H x (SetQ P w x [])) y (.lst [])) r (.tup (qV ((lineAt Ls hd).thn, false)))) := same_upd hr
    refine ⟨(by show 1 ≤ sizeLine; decide), fun z hz => ?_⟩
    have s4 : Same (upd (upd (upd H x (SetQ P w x [])) y (.lst [])) r (.tup (qV ((lineAt Ls hd).thn, false)))) (upd (upd (upd (upd H x (SetQ P w x [])) y (.lst [])) r (.tup (qV ((lineAt Ls hd).thn, false)))) z (.lst [V.ref r])) := same_upd hz
    have x0 : H x = none := hx
    have y0 : H y = none := sx1 s1 hy
    have z0 : H z = none := sx1 (s12.trans s3) hz
    have Hx := (s2.trans (s3.trans s4)) x _ upd_same
    have Hy := (s3.trans s4) y _ upd_same
    have Hr := s4 r _ upd_same
    have nyx : y ≠ x := by
      rintro rfl
      have hy : upd H y (SetQ P w y []) y = none := hy
      rw [upd_same] at hy; cases hy
    have nzy : z ≠ y := by
      rintro rfl
      have hz : upd (upd (upd H x (SetQ P w x [])) z (.lst [])) r (.tup (qV ((lineAt Ls hd).thn, false))) z = none := hz
      rw [s3 z _ upd_same] at hz; cases hz
    have nzx : z ≠ x := by
      rintro rfl
      have hz : upd (upd (upd H z (SetQ P w z [])) y (.lst [])) r (.tup (qV ((lineAt Ls hd).thn, false))) z = none := hz
      rw [(s2.trans s3) z _ upd_same] at hz; cases hz
    have I0 : InvB P w H (upd (upd (upd (upd H x (SetQ P w x [])) y (.lst [])) r (.tup (qV ((lineAt Ls hd).thn, false)))) z (.lst [V.ref r])) z y x [(r, ((lineAt Ls hd).thn, false))] [] [] :=
      ⟨(s12.trans s3).trans s4, upd_same, Hy, Hx, fun p hp => by rw [List.mem_singleton.mp hp]; exact Hr, fun p hp => absurd hp List.not_mem_nil⟩
    refine ⟨fun m σ H' => ∃ (x5 x6 x7 : Option V) (W L : List (Addr × QK)) (sn : List QK) (lt : List Nat), σ = [some (.ref t), some (.int hd), some (.ref x), some (.ref y), some (.ref z), x5, x6, x7] ∧ InvB P w H H' z y x W L lt ∧ behindM m Ls hd (W.map (·.2)) sn lt = some late ∧ (L.map (·.2)).Perm sn ∧ (∀ r ∈ L, r.2.1 < 10) ∧ W.length + m ≤ 100001 ∧ lt.length + m ≤ 100000, ⟨k, _, _, _, _, _, _, _, rfl, I0, hw, List.Perm.refl _, fun r hr => absurd hr List.not_mem_nil, by show 1 + k ≤ _; omega, by show 0 + k ≤ _; omega⟩, ?_⟩
    clear I0 Hx Hy Hr s1 s2 s3 s4 s12 hx hy hr hz at0 hl0
    rintro m σ H1 ⟨x5, x6, x7, W, L, sn, lt, rfl, I, hm, pm, b10, b1, b2⟩
    cases m with
    | zero => exact absurd hm (by simp [behindM])
    | succ m =>
      refine ⟨_, rfl, z, _, rfl, .inl (SqL.of I.hw), _, _, rfl, rfl, _, rfl, ?_⟩
      rw [List.length_map]
      rcases List.eq_nil_or_concat W with rfl | ⟨W', ⟨a, q⟩, rfl⟩
      · refine ifF (by rfl) ?_
        have e : lt = late := Option.some.inj hm
        exact ⟨_, rfl, kk _ H1 y0 I.sm (by rw [← e]; exact I.hy)⟩
      · rw [List.concat_eq_append] at *
        have hq := I.ew (a, q) (List.mem_append_right _ (List.mem_singleton.mpr rfl))
        have I1 := I.setW (W' := W') nzy nzx z0 fun p hp => I.ew p (List.mem_append_left _ hp)
        have hq1 : upd H1 z (.lst (W'.map fun p => V.ref p.1)) a = some (.tup (qV q)) := tup_keep hq I.hw (fun _ z => nomatch z)
        have hzl : H1 z = some (.lst ((W'.map fun x => V.ref x.1) ++ [V.ref a])) := by rw [I.hw, List.map_append]; rfl
        rw [List.map_append] at hm
        simp only [behindM, List.map_cons, List.map_nil, List.getLast?_concat, List.dropLast_concat] at hm
        have bl : W'.length + 1 + (m + 1) ≤ 100001 := by rw [List.length_append] at b1; exact b1
        refine ifT (decide_eq_true (by rw [List.length_append]; show (0 : Int) < ((W'.length + 1 : Nat) : Int); omega)) ⟨fun σ' H' => ∃ (x5 x6 x7 : Option V) (W L : List (Addr × QK)) (sn : List QK) (lt : List Nat), σ' = [some (.ref t), some (.int hd), some (.ref x), some (.ref y), some (.ref z), x5, x6, x7] ∧ InvB P w H H' z y x W L lt ∧ behindM m Ls hd (W.map (·.2)) sn lt = some late ∧ (L.map (·.2)).Perm sn ∧ (∀ r ∈ L, r.2.1 < 10) ∧ W.length + m ≤ 100001 ∧ lt.length + m ≤ 100000, fun σ' H' ⟨x5, x6, x7, W, L, sn, lt, q1, q2⟩ => ⟨m, Nat.lt_succ_self m, x5, x6, x7, W, L, sn, lt, q1, q2⟩, ?_⟩
        refine ⟨_, rfl, .inl ⟨rfl, _, SqL.of hzl⟩, z, _, _, rfl, rfl, hzl, by rw [List.length_append]; exact List.getElem?_concat_length .., ?_⟩
        rw [List.dropLast_concat]
        refine ⟨a, _, rfl, SqT.of hq1, rfl, ?_⟩
        refine ⟨_, _, rfl, _, _, rfl, rfl, _, rfl, _, rfl, rfl, _, rfl, ?_⟩
        by_cases c : q.1 = hd
        · rw [if_pos c] at hm
          refine ifT (decide_eq_true (congrArg V.int (congrArg Int.ofNat c))) (iteT ?_)
          exact ⟨_, _, _, W', L, sn, lt, rfl, I1, hm, pm, b10, by omega, by omega⟩
        · rw [if_neg c] at hm
          by_cases c10 : 10 ≤ q.1
          · rw [if_pos c10] at hm; cases hm
          rw [if_neg c10] at hm
          refine ifF (decide_eq_false fun z => c (Int.ofNat.inj (V.int.inj z))) ⟨_, rfl, _, rfl, (by show 2 ≤ sizeLine; decide), fun r hr => ?_⟩
          have s5 := same_upd (o := .tup (qV q)) hr
          have I2 := I1.same s5
          refine ⟨_, rfl, r, x, q, L, ⟨rfl, rfl, SqT.of upd_same, I2.hx, fun p hp => SqT.of (I2.el p hp), by omega, b10⟩, _, rfl, ?_⟩
          by_cases cs : q ∈ sn
          · rw [if_pos cs] at hm
            refine ifT (decide_eq_true (pm.mem_iff.mpr cs)) ?_
            exact ⟨_, _, _, W', L, sn, lt, rfl, I2, hm, pm, b10, by omega, by omega⟩
          · rw [if_neg cs] at hm
            have nq : q ∉ L.map (·.2) := fun z => cs (pm.mem_iff.mp z)
            refine ifF (decide_eq_false nq) ?_
            by_cases ce : q.1 = 0 ∨ Ls.length < q.1 ∨ 4 ≤ sn.length
            · rw [if_pos ce] at hm; cases hm
            rw [if_neg ce] at hm
            have ln : L.length = sn.length := by rw [← pm.length_eq, List.length_map]
            refine qD _ y x z _ q W' L lt _ nzy nzx nyx z0 y0 x0 I2 (by omega) (by omega) nq (by omega) (by omega) b10 (by omega) (by omega) fun W2 L2 H2 p e pm2 I3 => ?_
            refine ⟨_, _, _, W2, L2, q :: sn, _, rfl, I3, by rw [e]; exact hm, pm2.trans (pm.cons q), fun r hr => ?_, ?_, ?_⟩
            · have hm2 : r.2 ∈ q :: L.map (·.2) := pm2.mem_iff.mp (List.mem_map.mpr ⟨r, hr, rfl⟩)
              rcases List.mem_cons.mp hm2 with e2 | hm2
              · rw [e2]; omega
              · obtain ⟨r2, h2, e2⟩ := List.mem_map.mp hm2
                rw [← e2]; exact b10 r2 h2
            · have e2 := congrArg List.length e
              rw [List.length_append, List.length_append, List.length_map, List.length_map] at e2
              have e3 : (pushIf Ls q.1 q.2).length ≤ 1 := by unfold pushIf; split <;> simp
              have e4 : (pushThen Ls q.1 q.2).length ≤ 1 := by unfold pushThen; split <;> simp
              omega
            · split
              · rw [List.length_append]; show lt.length + 1 + m ≤ _; omega
              · omega
end
end K40

namespace L2
open PySem PySem.Spec PyProof.Rows
section
variable {X : Cx}
/-- what is never reached -/
theorem ps_no {st : Stmt} : PS X st (fun _ _ _ => False) := ⟨fun _ _ _ _ _ _ h => h.elim⟩
theorem pss_no {l : List Stmt} : PSs X l (fun _ _ _ => False) := ⟨fun _ _ _ _ _ _ h => h.elim⟩
end
end L2
namespace K40
open PySem PySem.Spec PyProof.Rows L2 Fm PySem.RingX
def wkF (k : Str) (t l : Addr) (pa : Int) (pl : Bool) (d r : Addr) : List (Str × V) := [("kind", .str k), ("program", .ref t), ("loops", .ref l), ("passed", .int pa), ("placed", .bl pl), ("nexts", .int 0), ("writes", .int 0), ("settings", .ref d), ("refused", .ref r)]
def walkNames : List Str := ["kind", "program", "loops", "passed", "placed", "nexts", "writes", "settings", "refused"]
section
variable (k : Str) (t l : Addr) (pa z : Int) (pl b : Bool) (d r : Addr)
theorem wk_kind : (wkF k t l pa pl d r).lookup ("kind" : Str) = some (.str k) := by kernel_rfl
theorem wk_program : (wkF k t l pa pl d r).lookup ("program" : Str) = some (.ref t) := by kernel_rfl
theorem wk_loops : (wkF k t l pa pl d r).lookup ("loops" : Str) = some (.ref l) := by kernel_rfl
theorem wk_passed : (wkF k t l pa pl d r).lookup ("passed" : Str) = some (.int pa) := by kernel_rfl
theorem wk_placed : (wkF k t l pa pl d r).lookup ("placed" : Str) = some (.bl pl) := by kernel_rfl
theorem wk_settings : (wkF k t l pa pl d r).lookup ("settings" : Str) = some (.ref d) := by kernel_rfl
theorem wk_refused : (wkF k t l pa pl d r).lookup ("refused" : Str) = some (.ref r) := by kernel_rfl
theorem wp_passed : putF "passed" (.int z) (wkF k t l pa pl d r) = wkF k t l z pl d r := by kernel_rfl
theorem wp_placed : putF "placed" (.bl b) (wkF k t l pa pl d r) = wkF k t l pa b d r := by kernel_rfl
theorem wk_made : putF "refused" (.ref r) (putF "settings" (.ref d) (putF "writes" (.int 0) (putF "nexts" (.int 0) (putF "placed" (.bl false) (putF "passed" (.int 0) (putF "loops" (.ref l) (putF "program" (.ref t) (putF "kind" (.str k) [])))))))) = wkF k t l 0 false d r := by kernel_rfl
theorem wk_small : (wkF k t l pa pl d r).length < 1000 := by show 9 < 1000; decide
end
theorem wk_no (k : Str) (t l : Addr) (pa : Int) (pl : Bool) (d r : Addr) {m : Str} (h : walkNames.all (fun x => !(decide (m = x))) = true) : (wkF k t l pa pl d r).lookup m = none := by
  have h2 : ∀ x ∈ walkNames, m ≠ x := fun x hx => by
    have := List.all_eq_true.mp h x hx
    simpa using this
  unfold wkF
  rw [List.lookup_eq_none_iff]
  intro p hp
  have : p.1 ∈ walkNames := by
    simp only [List.mem_cons, List.mem_nil_iff, or_false] at hp
    rcases hp with rfl | rfl | rfl | rfl | rfl | rfl | rfl | rfl | rfl <;> simp [walkNames]
  simpa using h2 _ this
/-- a walk at p -/
structure WalkAt (CW : Addr) (H : Hp) (p dx : Addr) (k : Str) (t l d r : Addr) (pa : Nat) (pl : Bool) (loops : List Nat) (kvs : List (Key × V)) : Prop where
  ob : H p = some (.ins CW dx (wkF k t l pa pl d r))
  hl : H l = some (.lst (intL loops))
  hd : H d = some (.dK kvs)
  hr : H r = some (.lst [])
  ne : l ≠ r
section
variable {CW : Addr} {H H' : Hp} {p dx : Addr} {k : Str} {t l d r : Addr} {pa : Nat} {pl : Bool} {loops : List Nat} {kvs : List (Key × V)}
theorem WalkAt.same (W : WalkAt CW H p dx k t l d r pa pl loops kvs) (s : Same H H') : WalkAt CW H' p dx k t l d r pa pl loops kvs := ⟨s _ _ W.ob, s _ _ W.hl, s _ _ W.hd, s _ _ W.hr, W.ne⟩
theorem WalkAt.pl_ (W : WalkAt CW H p dx k t l d r pa pl loops kvs) : p ≠ l := ne_of W.ob W.hl (fun z => nomatch z)
theorem WalkAt.pd_ (W : WalkAt CW H p dx k t l d r pa pl loops kvs) : p ≠ d := ne_of W.ob W.hd (fun z => nomatch z)
theorem WalkAt.pr_ (W : WalkAt CW H p dx k t l d r pa pl loops kvs) : p ≠ r := ne_of W.ob W.hr (fun z => nomatch z)
theorem WalkAt.setP {pa' : Nat} {pl' : Bool} (W : WalkAt CW H p dx k t l d r pa pl loops kvs) : WalkAt CW (upd H p (.ins CW dx (wkF k t l pa' pl' d r))) p dx k t l d r pa' pl' loops kvs :=
  ⟨upd_same, by rw [upd_ne W.pl_.symm]; exact W.hl, by rw [upd_ne W.pd_.symm]; exact W.hd, by rw [upd_ne W.pr_.symm]; exact W.hr, W.ne⟩
theorem WalkAt.setD {kvs' : List (Key × V)} (W : WalkAt CW H p dx k t l d r pa pl loops kvs) : WalkAt CW (upd H d (.dK kvs')) p dx k t l d r pa pl loops kvs' :=
  ⟨by rw [upd_ne W.pd_]; exact W.ob, by rw [upd_ne (ne_of W.hl W.hd (fun z => nomatch z))]; exact W.hl, upd_same, by rw [upd_ne (ne_of W.hr W.hd (fun z => nomatch z))]; exact W.hr, W.ne⟩
theorem WalkAt.setR (W : WalkAt CW H p dx k t l d r pa pl loops kvs) : WalkAt CW (upd H r (.lst [])) p dx k t l d r pa pl loops kvs :=
  ⟨by rw [upd_ne W.pr_]; exact W.ob, by rw [upd_ne W.ne]; exact W.hl, by rw [upd_ne (ne_of W.hd W.hr (fun z => nomatch z))]; exact W.hd, upd_same, W.ne⟩
end
end K40

namespace K40
open PySem PySem.Spec PyProof.Rows L2 Fm PySem.RingX
def walkB (Ls : List LineM) (n : Nat) : Bool := decide ((lineAt Ls n).form = "walk")
section
variable {P : Program} {w : World} {K : PySem.W.Frag} {mg : Str → Option Value} {base : Heap}
def nWI : List Str := ["self", "kind", "program", "way", "number"]
def spWalkI (K : PySem.W.Frag) (C CW : Addr) : Sp := fun vs H Q _ => ∃ (p dx : Addr) (k : Str) (t wy : Addr) (ps : List Addr) (Ls : List LineM) (way : List Nat), vs = [.ref p, .str k, .ref t, .ref wy] ∧ H p = some (.ins CW dx []) ∧ SqT K H t (ps.map V.ref) ∧ Objs K C H ps Ls ∧ H wy = some (.lst (intL way)) ∧
  (∀ n ∈ way, 1 ≤ n ∧ n ≤ Ls.length) ∧ way.length ≤ 100000 ∧
  ∀ (l d r : Addr) (H' : Hp), (∀ b o, b ≠ p → H b = some o → H' b = some o) → H l = none → H d = none → H r = none → WalkAt CW H' p dx k t l d r 0 false (way.filter (walkB Ls)) [] → Q .non H'
theorem scWalkI : FnScope nWI ["self", "kind", "program", "way"] (defScope s_Walk_init) := ⟨rfl, rfl, rfl, by decide +kernel, rfl, by decide +kernel, by decide +kernel⟩
theorem ok_walkI {f C CW : Addr} {fd : FuncData} (F : Fun K "__init__" "Walk.__init__" s_Walk_init f fd) (T : ClsT K mg CW "Walk" walkNames) (TL : ClsT K mg C "Line" lineNames) : FnOk P w K mg base CX0 1 f fd ["self", "kind", "program", "way"] (spWalkI K C CW) := by
  refine F.ok scWalkI (fun vs H Q E h => ?_) (fun cdv A outer s H vs Q E hr h => ?_)
  · obtain ⟨p, dx, k, t, wy, ps, Ls, way, rfl, _⟩ := h
    rfl
  · obtain ⟨p, dx, k, t, wy, ps, Ls, way, rfl, hp, sq, ob, hwy, hn, hl, kk⟩ := h
    have pl : ps.length = Ls.length := ob.len
    refine ⟨_, pss_cons (ps_fld (pv 0) (pv 1) rfl) (pss_cons (ps_fld (pv 0) (pv 2) rfl)
      (pss_cons (ps_fld (pv 0) (pe_lc (own := [("number", 4)]) (g := gName 4) rfl scWalkI.nd (pi_list (pv 3)) (blkOk_by (own := [("number", 4)]) (N := nWI) (sc := defScope s_Walk_init) (by decide +kernel))
          (fun _ _ _ _ _ => pg_name (i := 4) scWalkI.nd rfl (Or.inl rfl)) (fun _ _ _ _ _ => pts_one (pt_cmpR (show OpR _ _ rEq from op_eq) (show PE _ _ (tFld K (tOp (rIxT K) (tVar 2) (tOp (rI0 fun i j => V.int (i - j)) (tVar 4) (tC (.int 1)))) "form") from pe_fld (pe_ix ix_tup (pv 2) (pe_op op_sub (pv 4) pe_int) (fun _ _ => rfl)) rfl) pe_str (nomark _))) (fun _ _ _ _ _ => pv 4)) rfl)
      (pss_cons (ps_fld (pv 0) pe_int rfl) (pss_cons (ps_fld (pv 0) pe_bl rfl) (pss_cons (ps_fld (pv 0) pe_int rfl) (pss_cons (ps_fld (pv 0) pe_int rfl) (pss_cons (ps_fld (pv 0) pe_dnewK rfl) (pss_one (ps_fld (pv 0) (pe_lst pa_nil) rfl))))))))), ?_⟩
    refine ⟨_, rfl, _, rfl, p, CW, dx, _, rfl, hp, T.cl, T.no _ (by simp [walkNames]), lt1000 nil_lt, _, rfl, _, rfl, p, CW, dx, _, rfl, upd_same, T.cl, T.no _ (by simp [walkNames]), lt1000 (putF_lt (nil_lt)), ?_⟩
    rw [upd_upd]
    have pps : p ∉ ps := fun m => by
      obtain ⟨i, hi, e⟩ := List.getElem_of_mem m
      have hp1 : ps[i]? = some p := by rw [List.getElem?_eq_getElem hi, e]
      have hi2 : i < Ls.length := by rw [← pl]; exact hi
      obtain ⟨dx', vw, vt, hln, _⟩ := ob.each i p Ls[i] hp1 (List.getElem?_eq_getElem hi2)
      rw [hp] at hln
      injection hln with z
      injection z with _ _ z
      exact nomatch z
    have tp : ∀ xs, H t = some (.tup xs) → t ≠ p := fun xs e => ne_of e hp (fun z => nomatch z)
    have e1 : ∀ fs, ExtT H (upd H p (.ins CW dx fs)) := fun fs => ExtT.ins hp
    have wyp : wy ≠ p := ne_of hwy hp (fun z => nomatch z)
    have sq1 : ∀ fs, SqT K (upd H p (.ins CW dx fs)) t (ps.map V.ref) := fun fs => (e1 fs).sqT sq
    have ob1 : ∀ fs, Objs K C (upd H p (.ins CW dx fs)) ps Ls := fun fs => ob.keep (e1 fs) fun q hq => upd_ne fun z => pps (z ▸ hq)
    have wy1 : ∀ fs, upd H p (.ins CW dx fs) wy = some (.lst (intL way)) := fun fs => by rw [upd_ne wyp]; exact hwy
    generalize hfs : putF "program" (V.ref t) (putF "kind" (V.str k) []) = fs at *
    have l2 : fs.length < 3 := by rw [← hfs]; exact putF_lt (putF_lt nil_lt)
    refine ⟨_, rfl, wy, rfl, ⟨_, SqL.of (wy1 fs)⟩, fun D hD => lc_list (K := K) (a := wy) (xs := intL way) (fun i H' => Same (upd H p (.ins CW dx fs)) H' ∧ H' D = some (.lst (intL ((way.take i).filter (walkB Ls))))) ⟨same_upd hD, upd_same⟩ (fun i H' _ h => SqL.of (h.1 _ _ (wy1 fs))) ?_ ?_⟩
    · rintro i y H1 hy ⟨s1, h1⟩
      rw [List.getElem?_map] at hy
      obtain ⟨n, hn', rfl⟩ := Option.map_eq_some_iff.mp hy
      obtain ⟨n1, n2⟩ := hn n (List.mem_of_getElem? hn')
      obtain ⟨q, hq, _, dx', vw, vt, hln, _⟩ := ((ob1 fs).same s1).at_ n1 n2
      have at1 : atI (ps.map V.ref) ((n : Int) - 1) = some (.ref q) := by
        rw [show (n : Int) - 1 = ((n - 1 : Nat) : Int) by omega]
        exact atI_nat (by rw [List.getElem?_map, hq]; rfl)
      have tk : ∀ b, walkB Ls n = b → (way.take (i + 1)).filter (walkB Ls) = (way.take i).filter (walkB Ls) ++ (if b = true then [n] else []) := fun b e => by
        rw [take_more hn', List.filter_append, List.filter_cons, e]
        cases b <;> rfl
      refine ⟨rfl, _, rfl, _, rfl, _, _, rfl, rfl, t, _, _, .ref q, rfl, rfl, s1.sqT (sq1 fs), at1, q, C, dx', _, _, rfl, hln, TL.cl, TL.no _ (by simp [lineNames]), ln_form .., rfl, _, rfl, ?_⟩
      by_cases c : (lineAt Ls n).form = "walk"
      · have e := tk true (decide_eq_true c)
        rw [decide_eq_true (congrArg V.str c)]
        refine iteT ⟨_, rfl, _, h1, ?_, s1.updl hD, ?_⟩
        · have := List.length_filter_le (walkB Ls) (way.take i)
          rw [List.length_take] at this
          rw [List.length_map, sizeLine_eq]; omega
        · rw [upd_same, e, if_pos rfl]
          show _ = some (HO.lst ((_ ++ [n]).map _))
          rw [List.map_append]; rfl
      · have e := tk false (decide_eq_false c)
        rw [decide_eq_false fun z => c (V.str.inj z)]
        exact iteF ⟨s1, by rw [h1, e, if_neg (by decide), List.append_nil]⟩
    · rintro H1 ⟨s1, h1⟩
      rw [List.length_map, List.take_length] at h1
      have h1p := s1 p _ upd_same
      refine ⟨_, rfl, p, CW, dx, _, rfl, h1p, T.cl, T.no _ (by simp [walkNames]), lt1000 l2, _, rfl, p, CW, dx, _, rfl, upd_same, T.cl, T.no _ (by simp [walkNames]), lt1000 (putF_lt l2), _, rfl, p, CW, dx, _, rfl, upd_same, T.cl, T.no _ (by simp [walkNames]), lt1000 (putF_lt (putF_lt l2)), _, rfl, p, CW, dx, _, rfl, upd_same, T.cl, T.no _ (by simp [walkNames]), lt1000 (putF_lt (putF_lt (putF_lt l2))), _, rfl, p, CW, dx, _, rfl, upd_same, T.cl, T.no _ (by simp [walkNames]), lt1000 (putF_lt (putF_lt (putF_lt (putF_lt l2)))), ?_⟩
      rw [upd_upd, upd_upd, upd_upd, upd_upd]
      have l7 : (putF "writes" (V.int 0) (putF "nexts" (V.int 0) (putF "placed" (V.bl false) (putF "passed" (V.int 0) (putF "loops" (V.ref D) fs))))).length < 8 := putF_lt (putF_lt (putF_lt (putF_lt (putF_lt l2))))
      rw [← hfs] at l7 ⊢
      generalize hgs : putF "writes" (V.int 0) (putF "nexts" (V.int 0) (putF "placed" (V.bl false) (putF "passed" (V.int 0) (putF "loops" (V.ref D) (putF "program" (V.ref t) (putF "kind" (V.str k) [])))))) = gs at l7 ⊢
      intro d hd
      have s2 := same_upd (o := .dK []) hd
      refine ⟨_, rfl, p, CW, dx, _, rfl, s2 _ _ upd_same, T.cl, T.no _ (by simp [walkNames]), lt1000 l7, (by show 0 ≤ sizeLine; decide), fun r hr => ?_⟩
      have s3 := same_upd (o := .lst []) hr
      refine ⟨_, rfl, p, CW, dx, _, rfl, s3 _ _ upd_same, T.cl, T.no _ (by simp [walkNames]), lt1000 (putF_lt l7), ?_⟩
      rw [← hgs, wk_made]
      have npq : ∀ {X : Hp} {o : HO} {b : Addr}, upd X p o b = none → b ≠ p ∧ X b = none := fun {X o b} z => by
        have e : b ≠ p := by
          rintro rfl
          rw [upd_same] at z; cases z
        rw [upd_ne e] at z
        exact ⟨e, z⟩
      have back : ∀ b, H1 b = none → b ≠ p → H b = none := fun b z e => by
        cases q : H b with
        | none => rfl
        | some u =>
          have : upd H p (HO.ins CW dx fs) b = some u := by rw [upd_ne e]; exact q
          rw [s1 _ _ this] at z; cases z
      obtain ⟨pD, hD0⟩ := npq hD
      obtain ⟨pd, hd1⟩ := npq hd
      have hd0 := back d hd1 pd
      obtain ⟨pr, hr1⟩ := npq (X := upd (upd H1 p (HO.ins CW dx gs)) d (.dK [])) hr
      have rd : r ≠ d := by
        rintro rfl
        rw [upd_same] at hr1; cases hr1
      rw [upd_ne rd, upd_ne pr] at hr1
      have hr0 := back r hr1 pr
      have Dd : D ≠ d := ne_of_none h1 hd1
      have Dr : D ≠ r := ne_of_none h1 hr1
      refine kk D d r _ (fun b o e q => ?_) hD0 hd0 hr0 ⟨upd_same, ?_, ?_, ?_, Dr⟩
      · have q1 : H1 b = some o := s1 _ _ (by rw [upd_ne e]; exact q)
        rw [upd_ne e, upd_ne (ne_of_none q1 hr1), upd_ne e, upd_ne (ne_of_none q1 hd1), upd_ne e]
        exact q1
      · rw [upd_ne pD, upd_ne Dr, upd_ne pD, upd_ne Dd, upd_ne pD]
        exact h1
      · rw [upd_ne pd, upd_ne rd.symm, upd_ne pd, upd_same]
      · rw [upd_ne pr, upd_same]
end
end K40

namespace K40
open PySem PySem.Spec PyProof.Rows L2 Fm PySem.RingX
section
variable {P : Program} {w : World} {K : PySem.W.Frag} {mg : Str → Option Value} {base : Heap}
def spBehindL (CW : Addr) : Sp := fun vs H Q _ => ∃ (p dx : Addr) (k : Str) (t l d r : Addr) (pa : Nat) (pl : Bool) (loops : List Nat) (kvs : List (Key × V)), vs = [.ref p] ∧ WalkAt CW H p dx k t l d r pa pl loops kvs ∧ Q (.bl (decide (pa = loops.length))) H
theorem scBehindL : FnScope ["self"] ["self"] (defScope s_Walk_is_behind_loops) := ⟨rfl, rfl, rfl, by decide +kernel, rfl, by decide +kernel, by decide +kernel⟩
theorem ok_behindL {f CW : Addr} {fd : FuncData} (F : Fun K "is_behind_loops" "Walk.is_behind_loops" s_Walk_is_behind_loops f fd) (TG : GB mg) (T : ClsT K mg CW "Walk" walkNames) : FnOk P w K mg base CX0 1 f fd ["self"] (spBehindL CW) := by
  refine F.ok scBehindL (fun vs H Q E h => ?_) (fun cdv A outer s H vs Q E hr h => ?_)
  · obtain ⟨p, dx, k, t, l, d, r, pa, pl, loops, kvs, rfl, _⟩ := h
    rfl
  · obtain ⟨p, dx, k, t, l, d, r, pa, pl, loops, kvs, rfl, W, q⟩ := h
    refine ⟨_, pss_one (ps_ret (pe_cmpR op_eq (pe_fld (pv 0) rfl) (pe_callB call_len_seq (by rfl) TG.len PySem.boot_len (pa_cons (pe_fld (pv 0) rfl) pa_nil)) (nomark _))), ?_⟩
    refine ⟨_, rfl, p, CW, dx, _, _, rfl, W.ob, T.cl, T.no _ (by simp [walkNames]), wk_passed .., _, rfl, p, CW, dx, _, _, rfl, W.ob, T.cl, T.no _ (by simp [walkNames]), wk_loops .., l, _, rfl, .inl (SqL.of W.hl), rfl, ?_⟩
    have e : decide (V.int (pa : Int) = V.int ((intL loops).length : Nat)) = decide (pa = loops.length) := by
      rw [List.length_map]
      by_cases z : pa = loops.length
      · rw [decide_eq_true z, z]; exact decide_eq_true rfl
      · rw [decide_eq_false z]; exact decide_eq_false fun y => z (Int.ofNat.inj (V.int.inj y))
    rw [e]
    exact q
def spMay (K : PySem.W.Frag) (C CW : Addr) : Sp := fun vs H Q _ => ∃ (p dx : Addr) (k : Str) (t l d r : Addr) (loops : List Nat) (kvs : List (Key × V)) (a : Addr) (ln : LineM), vs = [.ref p, .ref a] ∧ WalkAt CW H p dx k t l d r 0 false loops kvs ∧ k ≠ "take" ∧ LineAt K C H a ln ∧ ln.form = "set" ∧ ln.words = (["at", "first"] : List Str) ∧ Q (.bl true) H
theorem scMay : FnScope ["self", "line"] ["self", "line"] (defScope s_Walk_may_place) := ⟨rfl, rfl, rfl, by decide +kernel, rfl, by decide +kernel, by decide +kernel⟩
theorem ok_may {f C CW : Addr} {fd : FuncData} (F : Fun K "may_place" "Walk.may_place" s_Walk_may_place f fd) (TC : TopC K mg) (T : ClsT K mg CW "Walk" walkNames) (TL : ClsT K mg C "Line" lineNames) : FnOk P w K mg base CX0 1 f fd ["self", "line"] (spMay K C CW) := by
  obtain ⟨aS, gS, hS⟩ := TC.start
  refine F.ok scMay (fun vs H Q E h => ?_) (fun cdv A outer s H vs Q E hr h => ?_)
  · obtain ⟨p, dx, k, t, l, d, r, loops, kvs, a, ln, rfl, _⟩ := h
    rfl
  · obtain ⟨p, dx, k, t, l, d, r, loops, kvs, a, ln, rfl, W, hk, la, hf, hw, q⟩ := h
    have hu65 : (A.deeper (envOfC "Walk.may_place" (defScope s_Walk_may_place) s.heap.objs.size f cdv)).units + 65 < cLine := by have := hr.un; omega
    have hu64 : (A.deeper (envOfC "Walk.may_place" (defScope s_Walk_may_place) s.heap.objs.size f cdv)).units + 64 < cLine := by omega
    refine ⟨_, pss_cons (ps_if (pt_val (pe_fld (pv 0) rfl)) pss_no pss_nil)
      (pss_cons (ps_if (PW.pt (pw_and (pt_cmpR op_eq (pe_fld (pv 0) rfl) pe_int (nomark _)) (pw_and1 (pt_cmpR op_ne (pe_fld (pv 0) rfl) pe_str (nomark _)))))
        (pss_one (ps_ret (pe_and (pe_cmpR op_eq (pe_fld (pv 1) rfl) pe_str (nomark _)) (pe_one (pe_cmpR (op_eqD hu64) (pe_fld (pv 1) rfl) (pe_glob (v := .ref aS) (by rfl) gS rfl) (nomark _)))))) pss_nil)
      pss_no), ?_⟩
    obtain ⟨dl, vw, vt, hln, dw, dt⟩ := la
    refine ⟨_, rfl, p, CW, dx, _, _, rfl, W.ob, T.cl, T.no _ (by simp [walkNames]), wk_placed .., false, rfl, iteF ?_⟩
    refine ⟨_, rfl, p, CW, dx, _, _, rfl, W.ob, T.cl, T.no _ (by simp [walkNames]), wk_passed .., rfl, _, rfl, ifT (by rfl) ?_⟩
    refine ⟨_, rfl, p, CW, dx, _, _, rfl, W.ob, T.cl, T.no _ (by simp [walkNames]), wk_kind .., rfl, _, rfl, ?_⟩
    rw [decide_eq_false fun z => hk (V.str.inj z)]
    refine iteT ?_
    refine ⟨_, rfl, a, C, dl, _, _, rfl, hln, TL.cl, TL.no _ (by simp [lineNames]), ln_form .., rfl, _, rfl, ?_⟩
    rw [decide_eq_true (congrArg V.str hf)]
    refine iteT ?_
    rw [hw] at dw
    exact ⟨_, rfl, a, C, dl, _, _, rfl, hln, TL.cl, TL.no _ (by simp [lineNames]), ln_words .., _, _, dw, hS H, by decide +kernel, by decide +kernel, q⟩
def spEarly (K : PySem.W.Frag) (C CW : Addr) : Sp := fun vs H Q _ => ∃ (p dx : Addr) (k : Str) (t l d r : Addr) (loops : List Nat) (kvs : List (Key × V)) (a : Addr) (n : Nat) (ln : LineM), vs = [.ref p, .int n, .ref a] ∧ WalkAt CW H p dx k t l d r 0 false loops kvs ∧ k ≠ "take" ∧ LineAt K C H a ln ∧ ln.form = "set" ∧ ln.words = (["at", "first"] : List Str) ∧
  Q .non (upd H p (.ins CW dx (wkF k t l 0 true d r)))
theorem scEarly : FnScope ["self", "number", "line"] ["self", "number", "line"] (defScope s_Walk_meet_early_setting) := ⟨rfl, rfl, rfl, by decide +kernel, rfl, by decide +kernel, by decide +kernel⟩
theorem ok_early {f fM C CW : Addr} {fd fdM : FuncData} (F : Fun K "meet_early_setting" "Walk.meet_early_setting" s_Walk_meet_early_setting f fd) (T : ClsT K mg CW "Walk" walkNames) (GM : FnOk P w K mg base CX0 1 fM fdM ["self", "line"] (spMay K C CW)) (bM : L2.Binds K fdM ["self", "line"] []) (mM : Meth K CW "may_place" fM) : FnOk P w K mg base CX0 2 f fd ["self", "number", "line"] (spEarly K C CW) := by
  refine F.ok scEarly (fun vs H Q E h => ?_) (fun cdv A outer s H vs Q E hr h => ?_)
  · obtain ⟨p, dx, k, t, l, d, r, loops, kvs, a, n, ln, rfl, _⟩ := h
    rfl
  · obtain ⟨p, dx, k, t, l, d, r, loops, kvs, a, n, ln, rfl, W, hk, la, hf, hw, q⟩ := h
    refine ⟨_, pss_one (ps_if (pt_val (pe_meth (pv 0) T.cl mM GM hr bM .nil pass0 (pa_cons (pv 2) pa_nil))) (pss_one (ps_fld (pv 0) pe_bl rfl)) pss_no), ?_⟩
    refine ⟨_, rfl, p, dx, _, rfl, W.ob, wk_no _ _ _ _ _ _ _ (by decide +kernel), _, rfl, p, dx, k, t, l, d, r, loops, kvs, a, ln, rfl, W, hk, la, hf, hw, true, rfl, iteT ?_⟩
    refine ⟨_, rfl, p, CW, dx, _, rfl, W.ob, T.cl, T.no _ (by simp [walkNames]), wk_small .., ?_⟩
    rw [wp_placed]
    exact q
def spLate (K : PySem.W.Frag) (C CW : Addr) : Sp := fun vs H Q _ => ∃ (p dx : Addr) (k : Str) (t l d r : Addr) (pa : Nat) (pl : Bool) (loops : List Nat) (kvs : List (Key × V)) (a : Addr) (n : Nat) (ln : LineM) (x y : Str), vs = [.ref p, .int n, .ref a] ∧ WalkAt CW H p dx k t l d r pa pl loops kvs ∧ kvs.length ≤ 200000 ∧ LineAt K C H a ln ∧ ln.form = "set" ∧ ln.words = [x, y] ∧
  ∀ kvs', kvs'.length ≤ kvs.length + 1 → Q .non (upd H d (.dK kvs'))
theorem scLate : FnScope ["self", "number", "line", "name", "source"] ["self", "number", "line"] (defScope s_Walk_meet_late_setting) := ⟨rfl, rfl, rfl, by decide +kernel, rfl, by decide +kernel, by decide +kernel⟩
theorem ok_late {f C CW : Addr} {fd : FuncData} (F : Fun K "meet_late_setting" "Walk.meet_late_setting" s_Walk_meet_late_setting f fd) (T : ClsT K mg CW "Walk" walkNames) (TL : ClsT K mg C "Line" lineNames) : FnOk P w K mg base CX0 1 f fd ["self", "number", "line"] (spLate K C CW) := by
  refine F.ok scLate (fun vs H Q E h => ?_) (fun cdv A outer s H vs Q E hr h => ?_)
  · obtain ⟨p, dx, k, t, l, d, r, pa, pl, loops, kvs, a, n, ln, x, y, rfl, _⟩ := h
    rfl
  · obtain ⟨p, dx, k, t, l, d, r, pa, pl, loops, kvs, a, n, ln, x, y, rfl, W, hl, la, hf, hw, q⟩ := h
    have hu := hu_of hr
    obtain ⟨dl, vw, vt, hln, dw, dt⟩ := la
    refine ⟨_, pss_cons (ps_asg (pe_fld (pv 2) rfl) (pg_tup rfl (pgs_cons (pg_name (i := 3) scLate.nd rfl (Or.inl rfl)) (pgs_cons (pg_name (i := 4) scLate.nd rfl (Or.inl rfl)) pgs_nil))))
      (pss_cons (ps_if (pt_cmpR op_eq (pe_fld (pv 2) rfl) pe_str (nomark _)) pss_no pss_nil)
      (pss_one (ps_dput hu (pe_fld (pv 0) rfl) (pv 3) (pv 4) rfl))), ?_⟩
    obtain ⟨tw, xs, rfl, qx, px⟩ := dp_tup dw
    rw [hw] at px
    cases px with
    | cons p1 t1 =>
      cases t1 with
      | cons p2 t2 =>
        cases t2
        cases p1
        cases p2
        refine ⟨_, rfl, a, C, dl, _, _, rfl, hln, TL.cl, TL.no _ (by simp [lineNames]), ln_words .., tw, _, rfl, qx, rfl, ?_⟩
        refine ⟨_, _, rfl, _, _, rfl, rfl, _, rfl, a, C, dl, _, _, rfl, hln, TL.cl, TL.no _ (by simp [lineNames]), ln_form .., rfl, _, rfl, ?_⟩
        rw [hf]
        refine iteF ?_
        refine ⟨_, rfl, _, rfl, p, CW, dx, _, _, rfl, W.ob, T.cl, T.no _ (by simp [walkNames]), wk_settings .., _, rfl, d, _, rfl, DPut.k (k := Sum.inr x) W.hd (by rw [sizeLine_eq]; omega), ?_⟩
        exact q _ (length_putK ..)
end
end K40

namespace K40
open PySem PySem.Spec PyProof.Rows L2 Fm PySem.RingX
section
variable {P : Program} {w : World} {K : PySem.W.Frag} {mg : Str → Option Value} {base : Heap}
def spMLoop (K : PySem.W.Frag) (C CW : Addr) : Sp := fun vs H Q _ => ∃ (p dx : Addr) (k : Str) (t l d r : Addr) (pa : Nat) (pl : Bool) (loops : List Nat) (kvs : List (Key × V)) (n : Nat) (ps : List Addr) (Ls : List LineM) (kb : Nat), vs = [.ref p, .int n] ∧ WalkAt CW H p dx k t l d r pa pl loops kvs ∧
  SqT K H t (ps.map V.ref) ∧ Objs K C H ps Ls ∧ 1 ≤ n ∧ n ≤ Ls.length ∧ pa < 2 ∧ (pa = 0 → k ≠ "take" → pl = true) ∧ kb ≤ 100000 ∧ behindM kb Ls n [((lineAt Ls n).thn, false)] [] [] = some [] ∧
  ∀ H', (∀ b o, b ≠ p → b ≠ r → H b = some o → H' b = some o) → WalkAt CW H' p dx k t l d r (pa + 1) false loops kvs → Q .non H'
theorem scMLoop : FnScope ["self", "number"] ["self", "number"] (defScope s_Walk_meet_loop) := ⟨rfl, rfl, rfl, by decide +kernel, rfl, by decide +kernel, by decide +kernel⟩
theorem ok_mloop {f C CW : Addr} {fd : FuncData} (F : Fun K "meet_loop" "Walk.meet_loop" s_Walk_meet_loop f fd) (TC : TopC K mg) (T : ClsT K mg CW "Walk" walkNames) (DB : Def P w K mg base CX0 "behind_go" 1 ["program", "head"] (spBehind K C)) : FnOk P w K mg base CX0 2 f fd ["self", "number"] (spMLoop K C CW) := by
  obtain ⟨fB, dB, GB_, gB, kB, bB⟩ := DB
  obtain ⟨tk, gM⟩ := TC.loops
  refine F.ok scMLoop (fun vs H Q E h => ?_) (fun cdv A outer s H vs Q E hr h => ?_)
  · obtain ⟨p, dx, k, t, l, d, r, pa, pl, loops, kvs, n, ps, Ls, kb, rfl, _⟩ := h
    rfl
  · obtain ⟨p, dx, k, t, l, d, r, pa, pl, loops, kvs, n, ps, Ls, kb, rfl, W, sq, ob, n1, n2, hpa, hpl, hkb, hb, q⟩ := h
    obtain ⟨tD, pD, qD⟩ : ∃ tD, PSs (cxOf CX0 P w K mg base ["self", "number"] "Walk.meet_loop" (defScope s_Walk_meet_loop) f cdv A outer s H E).nox ((defBody s_Walk_meet_loop).drop 1) tD ∧ ∀ D : Ends, (∀ σ H', Q .non H' → D.nx σ H') → tD D [some (.ref p), some (.int n)] H := by
      refine ⟨_, (pss_cons (ps_if (pt_cmpR op_ge (pe_fld (pv 0) rfl) (pe_glob (v := .int 2) (by rfl) gM ⟨tk, rfl⟩) (nomark _)) pss_no pss_nil)
        (pss_cons (ps_expr (pe_bm PySem.F.plainAttrs_list PySem.F.slot_list_extend PySem.F.type_list_extend mt_extend (pe_fld (pv 0) rfl) (pa_cons (pe_call GB_ hr (by rfl) gB kB bB .nil pass0 (pa_cons (pe_fld (pv 0) rfl) (pa_cons (pv 1) pa_nil))) pa_nil)))
        (pss_cons (ps_fldaug (pv 0) pe_int in_add)
        (pss_one (ps_fld (pv 0) pe_bl rfl))))), ?_⟩
      intro D hD
      refine ⟨_, rfl, p, CW, dx, _, _, rfl, W.ob, T.cl, T.no _ (by simp [walkNames]), wk_passed .., _, _, rfl, rfl, _, rfl, ifF (decide_eq_false (by show ¬ (2 : Int) ≤ (pa : Nat); omega)) ?_⟩
      refine ⟨_, rfl, p, CW, dx, _, _, rfl, W.ob, T.cl, T.no _ (by simp [walkNames]), wk_refused .., .inl ⟨rfl, _, SqL.of W.hr⟩, _, rfl, p, CW, dx, _, _, rfl, W.ob, T.cl, T.no _ (by simp [walkNames]), wk_program .., _, rfl, t, n, ps, Ls, kb, [], rfl, sq, ob, n1, n2, hkb, hb, fun y H1 hy s1 h1 => ?_⟩
      have W1 := W.same s1
      have ry : r ≠ y := ne_of_none W.hr hy
      refine ⟨r, y, _, _, rfl, rfl, W1.hr, h1, (by show 0 + 0 ≤ sizeLine; decide), ?_⟩
      have W2 := W1.setR
      refine ⟨_, rfl, p, CW, dx, _, _, rfl, W2.ob, T.cl, T.no _ (by simp [walkNames]), wk_passed .., _, _, rfl, rfl, dx, _, W2.ob, wk_small .., ?_⟩
      rw [wp_passed]
      have W3 := W2.setP (pa' := pa + 1) (pl' := pl)
      refine ⟨_, rfl, p, CW, dx, _, rfl, W3.ob, T.cl, T.no _ (by simp [walkNames]), wk_small .., ?_⟩
      rw [wp_placed]
      have W4 := W3.setP (pa' := pa + 1) (pl' := false)
      refine hD _ _ (q _ (fun b o e1 e2 h => ?_) W4)
      rw [upd_ne e1]
      refine (upd_ne e1).trans ?_
      refine (upd_ne e2).trans (s1 _ _ h)
    refine ⟨_, pss_cons (ps_if (PW.pt (pw_and (pt_cmpR op_eq (pe_fld (pv 0) rfl) pe_int (nomark _)) (pw_and (pt_cmpR op_ne (pe_fld (pv 0) rfl) pe_str (nomark _)) (pw_and1 (pt_not (pt_val (pe_fld (pv 0) rfl))))))) pss_no pss_nil) pD, ?_⟩
    refine ⟨_, rfl, p, CW, dx, _, _, rfl, W.ob, T.cl, T.no _ (by simp [walkNames]), wk_passed .., rfl, _, rfl, ?_⟩
    by_cases c0 : pa = 0
    · refine ifT (decide_eq_true (by rw [c0]; rfl)) ⟨_, rfl, p, CW, dx, _, _, rfl, W.ob, T.cl, T.no _ (by simp [walkNames]), wk_kind .., rfl, _, rfl, ?_⟩
      by_cases c1 : k = "take"
      · refine ifF (by rw [decide_eq_true (congrArg V.str c1)]; rfl) (iteF ?_)
        exact qD _ fun σ H' h => h
      · refine ifT (by rw [decide_eq_false fun z => c1 (V.str.inj z)]; rfl) ⟨_, rfl, p, CW, dx, _, _, rfl, W.ob, T.cl, T.no _ (by simp [walkNames]), wk_placed .., pl, rfl, ?_⟩
        rw [hpl c0 c1]
        refine iteF ?_
        exact qD _ fun σ H' h => h
    · refine ifF (decide_eq_false fun z => c0 (Int.ofNat.inj (V.int.inj z))) (iteF ?_)
      exact qD _ fun σ H' h => h
end
end K40

namespace Fm
open PySem PySem.Spec PyProof.Rows L2
def isWrM (f : Str) : Bool := inV (.str f) (WR.map fun p => V.str p.1)
def setsM (f : Str) : Bool := inV (.str f) [.str "set", .str "next"]
def stepW (kind : Str) (Ls : List LineM) (nl : Nat) (st : Nat × Bool) (n : Nat) : Option (Nat × Bool) :=
  if (lineAt Ls n).form = "walk" then
    if st.1 < 2 ∧ (st.1 = 0 → kind ≠ "take" → st.2 = true) ∧ behindM 1000 Ls n [((lineAt Ls n).thn, false)] [] [] = some [] then some (st.1 + 1, false) else none
  else if isWrM (lineAt Ls n).form = true then none
  else if setsM (lineAt Ls n).form = true then
    if (lineAt Ls n).form = "set" ∧ (lineAt Ls n).words.length = 2 then
      if st.1 = nl then some st
      else if st = (0, false) ∧ kind ≠ "take" ∧ (lineAt Ls n).words = (["at", "first"] : List Str) then some (0, true) else none
    else none
  else some st
def runW (kind : Str) (Ls : List LineM) (nl : Nat) : List Nat → Nat × Bool → Bool
  | [], _ => true
  | n :: r, st => match stepW kind Ls nl st n with
    | none => false
    | some st' => runW kind Ls nl r st'
end Fm
namespace K40
open PySem PySem.Spec PyProof.Rows L2 Fm PySem.RingX
def elB : Stmt → List Stmt | .If _ _ e _ => e | _ => []
def quietM (kind : Str) (Ls : List LineM) (way : List Nat) : Prop := runW kind Ls (way.filter (walkB Ls)).length way (0, false) = true ∧ ∀ n ∈ way, 1 ≤ n ∧ n ≤ Ls.length
section
variable {P : Program} {w : World} {K : PySem.W.Frag} {mg : Str → Option Value} {base : Heap}
structure WalkC (P : Program) (w : World) (K : PySem.W.Frag) (mg : Str → Option Value) (base : Heap) (C CW : Addr) : Prop where
  t : ClsT K mg CW "Walk" walkNames
  mkr : ∃ f fd, Mk K CW f ∧ FnOk P w K mg base CX0 1 f fd ["self", "kind", "program", "way"] (spWalkI K C CW) ∧ L2.Binds K fd ["self", "kind", "program", "way"] []
  bl : ∃ f fd, Meth K CW "is_behind_loops" f ∧ FnOk P w K mg base CX0 1 f fd ["self"] (spBehindL CW) ∧ L2.Binds K fd ["self"] []
  ml : ∃ f fd, Meth K CW "meet_loop" f ∧ FnOk P w K mg base CX0 2 f fd ["self", "number"] (spMLoop K C CW) ∧ L2.Binds K fd ["self", "number"] []
  me : ∃ f fd, Meth K CW "meet_early_setting" f ∧ FnOk P w K mg base CX0 2 f fd ["self", "number", "line"] (spEarly K C CW) ∧ L2.Binds K fd ["self", "number", "line"] []
  mt : ∃ f fd, Meth K CW "meet_late_setting" f ∧ FnOk P w K mg base CX0 1 f fd ["self", "number", "line"] (spLate K C CW) ∧ L2.Binds K fd ["self", "number", "line"] []
def nRO : List Str := ["kind", "program", "way", "walk", "write_forms", "number", "line", "name", "_"]
def spRO (K : PySem.W.Frag) (C : Addr) : Sp := fun vs H Q _ => ∃ (k : Str) (t wy : Addr) (ps : List Addr) (Ls : List LineM) (way : List Nat), vs = [.str k, .ref t, .ref wy] ∧ SqT K H t (ps.map V.ref) ∧ Objs K C H ps Ls ∧ H wy = some (.lst (intL way)) ∧ quietM k Ls way ∧ way.length ≤ 100000 ∧
  ∀ (r : Addr) (H' : Hp), H r = none → Same H H' → H' r = some (.lst []) → Q (.ref r) H'
theorem scRO : FnScope nRO ["kind", "program", "way"] (defScope s_refused_on) := ⟨rfl, rfl, rfl, by decide +kernel, rfl, by decide +kernel, by decide +kernel⟩
/-- behind i numbers -/
structure InvR (K : PySem.W.Frag) (C CW : Addr) (k : Str) (Ls : List LineM) (way : List Nat) (H H' : Hp) (p dx t l d r wf : Addr) (i : Nat) (st : Nat × Bool) : Prop where
  sm : Same H H'
  wk : ∃ kvs, kvs.length ≤ i ∧ WalkAt CW H' p dx k t l d r st.1 st.2 (way.filter (walkB Ls)) kvs
  wf : H' wf = some (.lst (WR.map fun p => V.str p.1))
  run : runW k Ls (way.filter (walkB Ls)).length (way.drop i) st = true
theorem ok_refOn {C CW : Addr} (R : Raw K mg "refused_on" s_refused_on ["kind", "program", "way"]) (F0 : TopF K w mg) (TL : ClsT K mg C "Line" lineNames) (W : WalkC P w K mg base C CW) : Def P w K mg base CX0 "refused_on" 3 ["kind", "program", "way"] (spRO K C) := by
  obtain ⟨T, ⟨fI, dI, M, GI, bI⟩, ⟨fB, dB, mB, GB_, bB⟩, ⟨fL, dL, mL, GL, bL⟩, ⟨fE, dE, mE, GE, bE⟩, ⟨fT, dT, mT, GT, bT⟩⟩ := W
  obtain ⟨aW, gW, hW⟩ := F0.writes
  refine R.def fun f fd F => F.ok scRO (fun vs H Q E h => ?_) (fun cdv A outer s H vs Q E hr h => ?_)
  · obtain ⟨k, t, wy, ps, Ls, way, rfl, _⟩ := h
    rfl
  · obtain ⟨k, t, wy, ps, Ls, way, rfl, sq, ob, hwy, ⟨hrun, hn⟩, hl, kk⟩ := h
    have pl : ps.length = Ls.length := ob.len
    have hr1 : Room 1 _ := hr.mono (by decide)
    have hr2 : Room (1 + 1) _ := hr.mono (by decide)
    -- a setting
    obtain ⟨tC, pC, qC⟩ : ∃ tC, PSs (cxOf CX0 P w K mg base nRO "refused_on" (defScope s_refused_on) f cdv A outer s H E).nox (ifB (nthS (elB (nthS (elB (nthS (forB (nthS (defBody s_refused_on) 2)) 1)) 0)) 0)) tC ∧
        ∀ (D : Ends) (p dx l d r wf q : Addr) (n i : Nat) (st st' : Nat × Bool) (H1 : Hp), H p = none → H d = none → H r = none → wf ≠ p → wf ≠ d → InvR K C CW k Ls way H H1 p dx t l d r wf i st → way[i]? = some n → i < 100000 → LineAt K C H1 q (lineAt Ls n) → (lineAt Ls n).form = "set" → (lineAt Ls n).words.length = 2 →
          (st.1 = (way.filter (walkB Ls)).length ∧ st' = st ∨ st.1 ≠ (way.filter (walkB Ls)).length ∧ st = (0, false) ∧ k ≠ "take" ∧ (lineAt Ls n).words = (["at", "first"] : List Str) ∧ st' = (0, true)) → runW k Ls (way.filter (walkB Ls)).length (way.drop (i + 1)) st' = true →
          (∀ H2, InvR K C CW k Ls way H H2 p dx t l d r wf (i + 1) st' → D.nx [some (.str k), some (.ref t), some (.ref wy), some (.ref p), some (.ref wf), some (.int n), some (.ref q), none, none] H2) →
          tC D [some (.str k), some (.ref t), some (.ref wy), some (.ref p), some (.ref wf), some (.int n), some (.ref q), none, none] H1 := by
      refine ⟨_, pss_one (ps_if (pt_val (pe_meth0 (pv 3) T.cl mB GB_ hr1 bB .nil pass0)) (pss_one (ps_expr (pe_meth (pv 3) T.cl mT GT hr1 bT .nil pass0 (pa_cons (pv 5) (pa_cons (pv 6) pa_nil)))))
        (pss_one (ps_expr (pe_meth (pv 3) T.cl mE GE hr2 bE .nil pass0 (pa_cons (pv 5) (pa_cons (pv 6) pa_nil)))))), ?_⟩
      intro D p dx l d r wf q n i st st' H1 p0 d0 r0 np nd I hi hi2 la hf hw2 hst hrun' next
      obtain ⟨sm, ⟨kvs, hk, Wk⟩, hwf, _⟩ := I
      refine ⟨_, rfl, p, dx, _, rfl, Wk.ob, wk_no _ _ _ _ _ _ _ (by decide +kernel), p, dx, k, t, l, d, r, st.1, st.2, _, kvs, rfl, Wk, _, rfl, ?_⟩
      rcases hst with ⟨c, rfl⟩ | ⟨c, e1, hkt, hw1, rfl⟩
      · obtain ⟨x, y, hxy⟩ : ∃ x y, (lineAt Ls n).words = [x, y] := by
          match hz : (lineAt Ls n).words, hw2 with
          | [x, y], _ => exact ⟨x, y, rfl⟩
        refine ifT (decide_eq_true c) ⟨_, rfl, p, dx, _, rfl, Wk.ob, wk_no _ _ _ _ _ _ _ (by decide +kernel), _, rfl, _, rfl, p, dx, k, t, l, d, r, _, _, _, kvs, q, n, _, x, y, rfl, Wk, by omega, la, hf, hxy, fun kvs' hkv => next _ ⟨sm.updl d0, ⟨kvs', by omega, Wk.setD⟩, ?_, hrun'⟩⟩
        rw [upd_ne nd]; exact hwf
      · subst e1
        refine ifF (decide_eq_false c) ⟨_, rfl, p, dx, _, rfl, Wk.ob, wk_no _ _ _ _ _ _ _ (by decide +kernel), _, rfl, _, rfl, p, dx, k, t, l, d, r, _, kvs, q, n, _, rfl, Wk, hkt, la, hf, hw1, next _ ⟨sm.updl p0, ⟨kvs, by omega, Wk.setP (pa' := 0) (pl' := true)⟩, ?_, hrun'⟩⟩
        rw [upd_ne np]; exact hwf
    refine ⟨_, pss_cons (ps_set (i := 3) scRO.nd rfl (Or.inl rfl) (pe_make M GI hr2 (by rfl) T.gC bI .nil pass0 (pa_cons (pv 0) (pa_cons (pv 1) (pa_cons (pv 2) pa_nil)))))
      (pss_cons (ps_setLc (i := 4) (own := [("name", 7), ("_", 8)]) (tt := tYes) rfl scRO.nd rfl rfl (by rfl) (pi_tup (pe_glob (v := .ref aW) (by rfl) gW rfl)) (blkOk_by (own := [("name", 7), ("_", 8)]) (N := nRO) (sc := defScope s_refused_on) (by decide +kernel))
          (fun _ _ _ _ _ => (show PG _ _ (gTup K 2 (gCons (gName 7) (gCons (gName 8) gNil))) from pg_tup rfl (pgs_cons (pg_name (i := 7) scRO.nd rfl (Or.inl rfl)) (pgs_cons (pg_name (i := 8) scRO.nd rfl (Or.inl rfl)) pgs_nil)))) (fun _ _ _ _ _ => pts_nil) (fun _ _ _ _ _ => pv 7))
      (pss_cons (ps_for PassesOwn.never rfl (pi_list (pv 2)) (pg_name (i := 5) scRO.nd rfl (Or.inl rfl))
        (pss_cons (ps_set (i := 6) scRO.nd rfl (Or.inl rfl) (pe_ix ix_tup (pv 1) (pe_op op_sub (pv 5) pe_int) (fun _ _ => rfl)))
        (pss_one (ps_if (pt_cmpR op_eq (pe_fld (pv 6) rfl) pe_str (nomark _)) (pss_one (ps_expr (pe_meth (pv 3) T.cl mL GL hr2 bL .nil pass0 (pa_cons (pv 5) pa_nil))))
          (pss_one (ps_if (pt_cmpR op_in_seq (pe_fld (pv 6) rfl) (pv 4) (by rfl)) pss_no
            (pss_one (ps_if (pt_cmpR op_in_seq (pe_fld (pv 6) rfl) (pe_tup (pa_cons pe_str (pa_cons pe_str pa_nil))) (by rfl)) pC pss_nil))))))))
      (pss_one (ps_ret (pe_fld (pv 3) rfl))))), ?_⟩
    refine ⟨_, rfl, _, rfl, _, rfl, fun p dx hp hdx hne => ?_⟩
    have e1 : Same H (upd (upd H dx (.own p)) p (.ins CW dx [])) := fun b o h => by
      rw [upd_ne (ne_of_none h hp), upd_ne (ne_of_none h hdx)]; exact h
    refine ⟨p, dx, k, t, wy, ps, Ls, way, rfl, upd_same, e1.sqT sq, ob.same e1, e1 _ _ hwy, hn, hl, fun l d r H1 s1 l0 d0 r0 W1 => ⟨rfl, ?_⟩⟩
    have sm1 : Same H H1 := fun b o h => s1 b o (ne_of_none h hp) (e1 _ _ h)
    have back : ∀ {b : Addr}, (upd (upd H dx (.own p)) p (.ins CW dx [])) b = none → H b = none := fun {b} z => by
      cases q : H b with
      | none => rfl
      | some u => rw [e1 _ _ q] at z; cases z
    have d0 := back d0
    have r0 := back r0
    obtain ⟨aw, xs, ew, sqw, pxw⟩ := dp_tup (hW H1)
    cases ew
    have xl := pxw.length
    rw [List.length_map] at xl
    refine ⟨aW, rfl, ⟨_, sqw⟩, fun wf hwf => lc_tup (K := K) (a := aW) (xs := xs) (fun i H' => Same H1 H' ∧ H' wf = some (.lst ((WR.take i).map fun p => V.str p.1))) ⟨same_upd hwf, upd_same⟩ (fun i H' _ h => h.1.sqT sqw) ?_ ?_⟩
    · rintro i x H2 hx ⟨s2, h2⟩
      obtain ⟨dd, hdi, dxx⟩ := dp_at pxw hx
      rw [List.getElem?_map] at hdi
      obtain ⟨pr, hpr, rfl⟩ := Option.map_eq_some_iff.mp hdi
      obtain ⟨tt, ts, rfl, sqt, dt⟩ := dp_tup dxx
      cases dt with
      | cons g1 dt => cases dt with
        | cons g2 dt =>
          cases dt
          cases dp_str g1
          cases dp_str g2
          refine ⟨tt, _, rfl, s2.sqT sqt, rfl, _, _, rfl, _, _, rfl, rfl, rfl, _, rfl, _, h2, ?_, s2.updl hwf, ?_⟩
          · rw [List.length_map, List.length_take, sizeLine_eq]
            have : WR.length = 6 := rfl
            omega
          · rw [upd_same, take_more hpr, List.map_append]; rfl
    · rintro H2 ⟨s2, h2⟩
      rw [xl, List.take_length] at h2
      have sm2 := sm1.trans s2
      have W2 := W1.same s2
      have wfp : wf ≠ p := (ne_of_none W1.ob hwf).symm
      have wfd : wf ≠ d := (ne_of_none W1.hd hwf).symm
      have wfr : wf ≠ r := (ne_of_none W1.hr hwf).symm
      refine ⟨_, rfl, wy, rfl, ⟨_, sm2.seq (SqL.of hwy)⟩, for_list (K := K) (a := wy) (xs := intL way) (fun i σ H' => ∃ (x5 x6 : Option V) (st : Nat × Bool), σ = [some (.str k), some (.ref t), some (.ref wy), some (.ref p), some (.ref wf), x5, x6, none, none] ∧ InvR K C CW k Ls way H H' p dx t l d r wf i st) ⟨_, _, (0, false), rfl, sm2, ⟨[], Nat.le_refl _, W2⟩, h2, by rw [List.drop_zero]; exact hrun⟩ (fun i σ H' _ ⟨_, _, _, _, I⟩ => SqL.of (I.sm _ _ hwy)) ?_ ?_⟩
      · rintro i y σ H3 hy ⟨x5, x6, st, rfl, I⟩
        rw [List.getElem?_map] at hy
        obtain ⟨n, hn', rfl⟩ := Option.map_eq_some_iff.mp hy
        obtain ⟨n1, n2⟩ := hn n (List.mem_of_getElem? hn')
        have hil : i < way.length := (List.getElem?_eq_some_iff.mp hn').1
        have dr : way.drop i = n :: way.drop (i + 1) := by rw [List.drop_eq_getElem_cons hil, (List.getElem?_eq_some_iff.mp hn').2]
        obtain ⟨sm, ⟨kvs, hk, Wk⟩, hwf', hrn⟩ := id I
        obtain ⟨q, hq, _, la⟩ := (ob.same sm).at_ n1 n2
        obtain ⟨dl, vw, vt, hln, dw, dt⟩ := id la
        have at1 : atI (ps.map V.ref) ((n : Int) - 1) = some (.ref q) := by
          rw [show (n : Int) - 1 = ((n - 1 : Nat) : Int) by omega]
          exact atI_nat (by rw [List.getElem?_map, hq]; rfl)
        rw [dr] at hrn
        unfold runW at hrn
        refine ⟨_, rfl, _, rfl, _, _, rfl, rfl, t, _, _, .ref q, rfl, rfl, sm.sqT sq, at1, ?_⟩
        refine ⟨_, rfl, q, C, dl, _, _, rfl, hln, TL.cl, TL.no _ (by simp [lineNames]), ln_form .., rfl, _, rfl, ?_⟩
        by_cases c1 : (lineAt Ls n).form = "walk"
        · rw [stepW, if_pos c1] at hrn
          by_cases c2 : st.1 < 2 ∧ (st.1 = 0 → k ≠ "take" → st.2 = true) ∧ behindM 1000 Ls n [((lineAt Ls n).thn, false)] [] [] = some []
          · rw [if_pos c2] at hrn
            refine ifT (decide_eq_true (congrArg V.str c1)) ⟨_, rfl, p, dx, _, rfl, Wk.ob, wk_no _ _ _ _ _ _ _ (by decide +kernel), _, rfl, p, dx, k, t, l, d, r, st.1, st.2, _, kvs, n, ps, Ls, 1000, rfl, Wk, sm.sqT sq, ob.same sm, n1, n2, c2.1, c2.2.1, by decide, c2.2.2, fun H4 s4 W4 => ?_⟩
            exact ⟨_, _, _, rfl, fun b o h => s4 b o (ne_of_none h hp) (ne_of_none h r0) (sm _ _ h), ⟨kvs, by omega, W4⟩, s4 _ _ wfp wfr hwf', hrn⟩
          · rw [if_neg c2] at hrn; cases hrn
        · rw [stepW, if_neg c1] at hrn
          refine ifF (decide_eq_false fun z => c1 (V.str.inj z)) ?_
          refine ⟨_, rfl, q, C, dl, _, _, rfl, hln, TL.cl, TL.no _ (by simp [lineNames]), ln_form .., _, rfl, wf, _, rfl, .inl (SqL.of hwf'), rfl, by rfl, _, rfl, ?_⟩
          show if isWrM (lineAt Ls n).form = true then _ else _
          cases c2 : isWrM (lineAt Ls n).form with
          | true => rw [c2, if_pos rfl] at hrn; cases hrn
          | false =>
            rw [c2, if_neg (by decide)] at hrn
            refine iteF ⟨_, rfl, q, C, dl, _, _, rfl, hln, TL.cl, TL.no _ (by simp [lineNames]), ln_form .., (by show 2 ≤ sizeLine; decide), fun u hu => ?_⟩
            have s5 := same_upd (o := .tup [V.str "set", V.str "next"]) hu
            refine ⟨u, _, rfl, .inr (SqT.of upd_same), rfl, by rfl, _, rfl, ?_⟩
            have I5 : InvR K C CW k Ls way H (upd H3 u (.tup [V.str "set", V.str "next"])) p dx t l d r wf i st := ⟨sm.trans s5, ⟨kvs, hk, Wk.same s5⟩, s5 _ _ hwf', I.run⟩
            have la5 := la.same s5
            generalize upd H3 u (.tup [V.str "set", V.str "next"]) = H5 at I5 la5 ⊢
            show if setsM (lineAt Ls n).form = true then _ else _
            cases c3 : setsM (lineAt Ls n).form with
            | false =>
              rw [c3, if_neg (by decide)] at hrn
              obtain ⟨sm5, ⟨kv5, hk5, Wk5⟩, hw5, _⟩ := I5
              exact iteF ⟨_, _, _, rfl, sm5, ⟨kv5, by omega, Wk5⟩, hw5, hrn⟩
            | true =>
              rw [c3, if_pos rfl] at hrn
              by_cases c4 : (lineAt Ls n).form = "set" ∧ (lineAt Ls n).words.length = 2
              · rw [if_pos c4] at hrn
                refine iteT ?_
                by_cases c5 : st.1 = (way.filter (walkB Ls)).length
                · rw [if_pos c5] at hrn
                  exact qC _ p dx l d r wf q n i st st H5 hp d0 r0 wfp wfd I5 hn' (by omega) la5 c4.1 c4.2 (.inl ⟨c5, rfl⟩) hrn fun H6 I6 => ⟨_, _, _, rfl, I6⟩
                · rw [if_neg c5] at hrn
                  by_cases c6 : st = (0, false) ∧ k ≠ "take" ∧ (lineAt Ls n).words = (["at", "first"] : List Str)
                  · rw [if_pos c6] at hrn
                    exact qC _ p dx l d r wf q n i st (0, true) H5 hp d0 r0 wfp wfd I5 hn' (by omega) la5 c4.1 c4.2 (.inr ⟨c5, c6.1, c6.2.1, c6.2.2, rfl⟩) hrn fun H6 I6 => ⟨_, _, _, rfl, I6⟩
                  · rw [if_neg c6] at hrn; cases hrn
              · rw [if_neg c4] at hrn; cases hrn
      · rintro σ H3 ⟨x5, x6, st, rfl, I⟩
        obtain ⟨sm, ⟨kvs, hk, Wk⟩, hwf', hrn⟩ := I
        exact ⟨_, rfl, p, CW, dx, _, _, rfl, Wk.ob, T.cl, T.no _ (by simp [walkNames]), wk_refused .., kk r H3 r0 sm Wk.hr⟩
end
end K40

namespace K40
open PySem PySem.Spec PyProof.Rows L2 Fm PySem.RingX
/-- nothing is refused -/
structure QuietM (k x : Str) (ts : List Str) (Ls : List LineM) : Prop where
  bar : barsM k x ts = []
  ways : ∃ n ways, n ≤ 100000 ∧ waysM n Ls [([], 1)] [] = some ways ∧ ∀ wy ∈ ways, quietM k Ls wy ∧ wy.length ≤ 100000
section
variable {P : Program} {w : World} {K : PySem.W.Frag} {mg : Str → Option Value} {base : Heap}
def spRL (K : PySem.W.Frag) (C : Addr) : Sp := fun vs H Q _ => ∃ (k x : Str) (a t : Addr) (ts : List Str) (ps : List Addr) (Ls : List LineM), vs = [.str k, .str x, .ref a, .ref t] ∧ SqL K H a (ts.map V.str) ∧ (∀ t ∈ ts, Asc t) ∧ ts.length ≤ 1000 ∧ SqT K H t (ps.map V.ref) ∧ Objs K C H ps Ls ∧ QuietM k x ts Ls ∧
  ∀ (r : Addr) (H' : Hp), H r = none → Same H H' → H' r = some (.lst []) → Q (.ref r) H'
def nRL : List Str := ["kind", "way", "texts", "program", "found", "numbers"]
theorem scRL : FnScope nRL ["kind", "way", "texts", "program"] (defScope s_refused_lines) := ⟨rfl, rfl, rfl, by decide +kernel, rfl, by decide +kernel, by decide +kernel⟩
theorem ok_refL {C : Addr} (R : Raw K mg "refused_lines" s_refused_lines ["kind", "way", "texts", "program"]) (DB : Def P w K mg base CX0 "barred_lines" 2 ["kind", "way", "texts"] (spBarL K)) (DW : Def P w K mg base CX0 "all_ways" 1 ["program"] (spWays K C)) (DR : Def P w K mg base CX0 "refused_on" 3 ["kind", "program", "way"] (spRO K C)) : Def P w K mg base CX0 "refused_lines" 4 ["kind", "way", "texts", "program"] (spRL K C) := by
  obtain ⟨fB, dB, GB_, gB, kB, bB⟩ := DB
  obtain ⟨fW, dW, GW, gW, kW, bW⟩ := DW
  obtain ⟨fR, dR, GR, gR, kR, bR⟩ := DR
  refine R.def fun f fd F => F.ok scRL (fun vs H Q E h => ?_) (fun cdv A outer s H vs Q E hr h => ?_)
  · obtain ⟨k, x, a, t, ts, ps, Ls, rfl, _⟩ := h
    rfl
  · obtain ⟨k, x, a, t, ts, ps, Ls, rfl, sa, ha, hl, sq, ob, ⟨hb, n, ways, hn, hw, hq⟩, kk⟩ := h
    have hr1 : Room 1 _ := hr.mono (by decide)
    have hr2 : Room 2 _ := hr.mono (by decide)
    refine ⟨_, pss_cons (ps_set (i := 4) scRL.nd rfl (Or.inl rfl) (pe_call GB_ hr2 (by rfl) gB kB bB .nil pass0 (pa_cons (pv 0) (pa_cons (pv 1) (pa_cons (pv 2) pa_nil)))))
      (pss_cons (ps_for PassesOwn.never rfl (pi_list (pe_call GW hr1 (by rfl) gW kW bW .nil pass0 (pa_cons (pv 3) pa_nil))) (pg_name (i := 5) scRL.nd rfl (Or.inl rfl))
        (pss_one (ps_expr (pe_bm PySem.F.plainAttrs_list PySem.F.slot_list_extend PySem.F.type_list_extend mt_extend (pv 4) (pa_cons (pe_call GR hr (by rfl) gR kR bR .nil pass0 (pa_cons (pv 0) (pa_cons (pv 3) (pa_cons (pv 5) pa_nil)))) pa_nil)))))
      (pss_one (ps_ret (pv 4)))), ?_⟩
    refine ⟨_, rfl, _, rfl, _, rfl, k, x, a, ts, rfl, sa, ha, hl, fun p H1 hp s1 h1 => ?_⟩
    rw [hb] at h1
    refine ⟨_, rfl, t, ps, Ls, n, ways, rfl, s1.sqT sq, ob.same s1, hn, hw, fun y Y H2 hy s2 h2 eY hY => ?_⟩
    have s12 := s1.trans s2
    have npy : p ≠ y := ne_of_none h1 hy
    have hy0 : H y = none := by
      cases e : H y with
      | none => rfl
      | some u => rw [s1 _ _ e] at hy; cases hy
    refine ⟨y, rfl, ⟨_, SqL.of h2⟩, for_list (K := K) (a := y) (xs := Y.map fun q => V.ref q.1) (fun i σ H' => (∃ x5, σ = [some (.str k), some (.str x), some (.ref a), some (.ref t), some (.ref p), x5]) ∧ Same H H' ∧ H' p = some (.lst []) ∧ H' y = some (.lst (Y.map fun q => V.ref q.1)) ∧ ∀ q ∈ Y, H' q.1 = some (.lst (intL q.2)) ∧ q.1 ≠ p) ⟨⟨_, rfl⟩, s12, s2 _ _ h1, h2, ?_⟩ (fun i σ H' _ h => SqL.of h.2.2.2.1) ?_ ?_⟩
    · intro q hq'
      obtain ⟨g1, g2⟩ := hY q hq'
      exact ⟨g1, (ne_of_none h1 g2).symm⟩
    · rintro i z σ H3 hz ⟨⟨x5, rfl⟩, s3, h3, h3y, hY3⟩
      rw [List.getElem?_map] at hz
      obtain ⟨q, hq', rfl⟩ := Option.map_eq_some_iff.mp hz
      have qm := List.mem_of_getElem? hq'
      obtain ⟨g1, g2⟩ := hY3 q qm
      have qw : q.2 ∈ ways := by rw [← eY]; exact List.mem_map.mpr ⟨q, qm, rfl⟩
      obtain ⟨w1, w2⟩ := hq q.2 qw
      refine ⟨_, rfl, .inl ⟨rfl, _, SqL.of h3⟩, _, rfl, _, rfl, _, rfl, k, t, q.1, ps, Ls, q.2, rfl, s3.sqT sq, ob.same s3, g1, w1, w2, fun r H4 hr4 s4 h4 => ?_⟩
      refine ⟨p, r, _, _, rfl, rfl, s4 _ _ h3, h4, (by show 0 + 0 ≤ sizeLine; decide), ⟨_, rfl⟩, ?_, upd_same, ?_, ?_⟩
      · exact (s3.trans s4).updl (by
          cases e : H p with
          | none => rfl
          | some u => rw [e] at hp; cases hp)
      · rw [upd_ne npy.symm]; exact s4 _ _ h3y
      · intro q' hq2
        obtain ⟨g1', g2'⟩ := hY3 q' hq2
        exact ⟨by rw [upd_ne g2']; exact s4 _ _ g1', g2'⟩
    · rintro σ H3 ⟨⟨x5, rfl⟩, s3, h3, _⟩
      exact ⟨_, rfl, kk p H3 hp s3 h3⟩
end
end K40

namespace K40
open PySem PySem.Spec PyProof.Rows L2 Fm PySem.RingX
/-- the errors that a code may raise -/
structure EXA (P : Program) (K : PySem.W.Frag) (mg : Str → Option Value) (CK CY CL CM fK fY fL fM : Addr) : Prop where
  kind : ExTxt P K mg CK fK "BadKind" ["kind"]
  way : ExTxt P K mg CY fY "BadWay" ["way"]
  line : ExTxt P K mg CL fL "BadLine" ["line"]
  many : ExTxt P K mg CM fM "TooMany" ["what", "many", "most"]
def Rz3 (C : Addr) (a b c : V) (H : Hp) (E : XK) : Prop := ∀ H' dd, Same H H' → H' dd = none → E (.ref C) (some dd) (upd H' dd (.xd (xdl ["what", "many", "most"] [a, b, c])))
def cdF (k x text : Str) (tt tp : Addr) : List (Str × V) := [("kind", .str k), ("way", .str x), ("text", .str text), ("texts", .ref tt), ("program", .ref tp)]
def codeNames : List Str := ["kind", "way", "text", "texts", "program"]
theorem cd_made (k x text : Str) (tt tp : Addr) : putF "program" (.ref tp) (putF "texts" (.ref tt) (putF "text" (.str text) (putF "way" (.str x) (putF "kind" (.str k) [])))) = cdF k x text tt tp := by kernel_rfl
theorem cd_kind (k x text : Str) (tt tp : Addr) : (cdF k x text tt tp).lookup ("kind" : Str) = some (.str k) := by kernel_rfl
theorem cd_way (k x text : Str) (tt tp : Addr) : (cdF k x text tt tp).lookup ("way" : Str) = some (.str x) := by kernel_rfl
theorem cd_text (k x text : Str) (tt tp : Addr) : (cdF k x text tt tp).lookup ("text" : Str) = some (.str text) := by kernel_rfl
theorem cd_texts (k x text : Str) (tt tp : Addr) : (cdF k x text tt tp).lookup ("texts" : Str) = some (.ref tt) := by kernel_rfl
theorem cd_no (k x text : Str) (tt tp : Addr) {m : Str} (h : codeNames.all (fun x => !(decide (m = x))) = true) : (cdF k x text tt tp).lookup m = none := by
  have h2 : ∀ x ∈ codeNames, m ≠ x := fun x hx => by
    have := List.all_eq_true.mp h x hx
    simpa using this
  unfold cdF
  rw [List.lookup_eq_none_iff]
  intro p hp
  have : p.1 ∈ codeNames := by
    simp only [List.mem_cons, List.mem_nil_iff, or_false] at hp
    rcases hp with rfl | rfl | rfl | rfl | rfl <;> simp [codeNames]
  simpa using h2 _ this
section
variable {P : Program} {w : World} {K : PySem.W.Frag} {mg : Str → Option Value} {base : Heap}
/-- what comes of a text -/
def TextC (CL CM : Addr) (k x text : Str) (H : Hp) (E : XK) (fin : List LineM → Prop) : Prop :=
  (60 < (linesOfM text).length ∧ Rz3 CM (.str "lines") (.int (linesOfM text).length) (.int 60) H E) ∨
  ((linesOfM text).length ≤ 60 ∧ ∃ (n : Nat) (r : Except Nat (List LineM)), programM n (linesOfM text) = some r ∧
    ((∃ m : Nat, r = .error m ∧ Rz CL "line" (.int m) H E) ∨
     (∃ Ls, r = .ok Ls ∧ ((7 < ifsM Ls ∧ Rz3 CM (.str "ifs") (.int (ifsM Ls)) (.int 7) H E) ∨ (ifsM Ls ≤ 7 ∧ QuietM k x (linesOfM text) Ls ∧ fin Ls)))))
/-- what comes of a kind, a way and a text -/
def CodeC (K : PySem.W.Frag) (CK CY CL CM : Addr) (vk vw : V) (text : Str) (H : Hp) (E : XK) (fin : Str → Str → List LineM → Prop) : Prop :=
  (((∃ k, vk = .str k ∧ kindM k = false) ∨ NotStr K H vk) ∧ Rz CK "kind" vk H E) ∨
  (∃ k, vk = .str k ∧ kindM k = true ∧
    ((((∃ x, vw = .str x ∧ wayM x = false) ∨ NotStr K H vw) ∧ Rz CY "way" vw H E) ∨
     (∃ x, vw = .str x ∧ wayM x = true ∧ Asc text ∧ text.length ≤ 90000 ∧ text.length ≤ 900 * 60 ∧ (linesOfM text).length ≤ 1000 ∧ TextC CL CM k x text H E (fin k x))))
def nCI : List Str := ["self", "kind", "way", "text", "texts", "program", "ifs", "refused"]
def spCodeI (K : PySem.W.Frag) (C CC CK CY CL CM : Addr) : Sp := fun vs H Q E => ∃ (p dx : Addr) (vk vw : V) (text : Str), vs = [.ref p, vk, vw, .str text] ∧ H p = some (.ins CC dx []) ∧
  CodeC K CK CY CL CM vk vw text H E fun k x Ls => ∀ (tt tp : Addr) (ps : List Addr) (H' : Hp), (∀ b o, b ≠ p → H b = some o → H' b = some o) → H' p = some (.ins CC dx (cdF k x text tt tp)) → H' tt = some (.tup ((linesOfM text).map V.str)) → SqT K H' tp (ps.map V.ref) → Objs K C H' ps Ls → Q .non H'
theorem scCI : FnScope nCI ["self", "kind", "way", "text"] (defScope s_Code_init) := ⟨rfl, rfl, rfl, by decide +kernel, rfl, by decide +kernel, by decide +kernel⟩
theorem asc_parts {x : Str} (h : Asc x) (l : x.length ≤ 90000) : ∀ t ∈ linesOfM x, Asc t ∧ t.length ≤ 90000 := by
  unfold linesOfM
  split
  · intro t ht; cases ht
  · intro t ht
    obtain ⟨h1, h2⟩ := (split_parts (sep := "\n") h (by decide +kernel)).1 t ht
    exact ⟨h1, by omega⟩
theorem linkAll_len {k : Nat} : ∀ (m n : Nat) (Ls Lf : List LineM), linkAll k m n Ls = some Lf → Lf.length = Ls.length
  | 0, _, Ls, Lf, h => by cases h; rfl
  | m + 1, n, Ls, Lf, h => by
    unfold linkAll at h
    cases e : linkM k Ls n with
    | none => rw [e] at h; cases h
    | some L2 =>
      rw [e] at h
      rw [linkAll_len m (n + 1) L2 Lf h, linkM_len e]
theorem programM_len {n : Nat} {ts : List Str} {Ls : List LineM} (h : programM n ts = some (.ok Ls)) : Ls.length = ts.length := by
  unfold programM at h
  cases e : linesM ts with
  | error m => rw [e] at h; cases h
  | ok L0 =>
    rw [e] at h
    dsimp only at h
    cases e2 : linkAll n L0.length 1 L0 with
    | none => rw [e2] at h; cases h
    | some Lf =>
      rw [e2] at h
      cases h
      rw [linkAll_len _ _ _ _ e2, linesM_len e]
/-- all but an instance is kept -/
theorem sqT_but {p : Addr} {C dx : Addr} {fs : List (Str × V)} {H H' : Hp} {a : Addr} {xs : List V} (hp : H p = some (.ins C dx fs)) (ex : ∀ b o, b ≠ p → H b = some o → H' b = some o) (q : SqT K H a xs) : SqT K H' a xs := by
  rcases q with (q | ⟨o, q⟩) | q
  · exact .inl (.inl (ex _ _ (fun e => by rw [e, hp] at q; cases q) q))
  · exact .inl (.inr ⟨o, ex _ _ (fun e => by rw [e, hp] at q; cases q) q⟩)
  · exact .inr q
theorem dp_but {p : Addr} {C dx : Addr} {fs : List (Str × V)} {H H' : Hp} (hp : H p = some (.ins C dx fs)) (ex : ∀ b o, b ≠ p → H b = some o → H' b = some o) : ∀ {d : PyData} {v : V}, Dp K H v d → Dp K H' v d := by
  intro d v h
  induction h using Dp.rec (motive_2 := fun vs ds _ => DpAll K H' vs ds) with
  | non => exact .non
  | bl b => exact .bl b
  | int i => exact .int i
  | str x => exact .str x
  | lst q _ ih =>
    refine .lst ?_ ih
    rcases q with (q | ⟨o, q⟩) | q
    · exact .inl (.inl (ex _ _ (fun e => by rw [e, hp] at q; cases q) q))
    · exact .inl (.inr ⟨o, ex _ _ (fun e => by rw [e, hp] at q; cases q) q⟩)
    · exact .inr q
  | tup q _ ih => exact .tup (sqT_but hp ex q) ih
  | nil => exact .nil
  | cons _ _ ih1 ih2 => exact .cons ih1 ih2
theorem objs_but {p : Addr} {CC dx C : Addr} {H H' : Hp} {ps : List Addr} {Ls : List LineM} (hp : H p = some (.ins CC dx [])) (ex : ∀ b o, b ≠ p → H b = some o → H' b = some o) (ob : Objs K C H ps Ls) : Objs K C H' ps Ls := by
  refine ⟨ob.len, fun i q l h1 h2 => ?_, ob.nd⟩
  obtain ⟨dq, vw, vt, g1, g2, g3⟩ := ob.each i q l h1 h2
  exact ⟨dq, vw, vt, ex _ _ (fun e => by rw [e, hp] at g1; cases g1) g1, dp_but hp ex g2, dp_but hp ex g3⟩
theorem ok_codeI {f C CC CK CY CL CM fK fY fL fM : Addr} {fd : FuncData} (F : Fun K "__init__" "Code.__init__" s_Code_init f fd) (T : GB mg) (TC : TopC K mg) (TT : ClsT K mg CC "Code" codeNames) (X : EXA P K mg CK CY CL CM fK fY fL fM)
    (DK : Def P w K mg base CX0 "is_kind" 1 ["value"] (spStrIn K kindM)) (DY : Def P w K mg base CX0 "is_way" 1 ["value"] (spStrIn K wayM)) (DL : Def P w K mg base CX0 "lines_of" 1 ["text"] spLinesOf) (DP : Def P w K mg base (L2.CX P w) "read_program" 9 ["texts"] (spProg K C CL)) (DI : Def P w K mg base CX0 "outer_ifs" 1 ["program"] (spIfs K C)) (DR : Def P w K mg base CX0 "refused_lines" 4 ["kind", "way", "texts", "program"] (spRL K C)) :
    FnOk P w K mg base (L2.CX P w) 10 f fd ["self", "kind", "way", "text"] (spCodeI K C CC CK CY CL CM) := by
  obtain ⟨fk, dk, Gk, gk, kk, bk⟩ := DK
  obtain ⟨fy, dy, Gy, gy, ky, by_⟩ := DY
  obtain ⟨fl, dl, Gl_, gl, kl, bl⟩ := DL
  obtain ⟨fp, dp, Gp, gp, kp, bp⟩ := DP
  obtain ⟨fi, di, Gi, gi, ki, bi⟩ := DI
  obtain ⟨fr, dr, Gr, gr, kr, br⟩ := DR
  obtain ⟨t60, g60⟩ := TC.lines
  obtain ⟨t7, g7⟩ := TC.ifs
  refine F.okX scCI (fun vs H Q E h => ?_) (fun cdv A outer s H vs Q E hr h => ?_)
  · obtain ⟨p, dx, vk, vw, text, rfl, _⟩ := h
    rfl
  · obtain ⟨p, dx, vk, vw, text, rfl, hp, h⟩ := h
    have hr1 : Room 1 _ := hr.mono (by decide)
    have hr4 : Room 4 _ := hr.mono (by decide)
    -- the attributes
    obtain ⟨tE, pE, qE⟩ : ∃ tE, PSs (cxOf (L2.CX P w) P w K mg base nCI "Code.__init__" (defScope s_Code_init) f cdv A outer s H E) ((defBody s_Code_init).drop 9) tE ∧
        ∀ (D : Ends) (k x text : Str) (pt tp : Addr) (ps : List Addr) (Ls : List LineM) (x6 x7 : Option V) (H1 : Hp), H1 p = some (.ins CC dx []) → H1 pt = some (.lst ((linesOfM text).map V.str)) → (∀ b o, b ≠ p → H b = some o → H1 b = some o) → SqT K H1 tp (ps.map V.ref) → Objs K C H1 ps Ls →
          (∀ (tt tp : Addr) (ps : List Addr) (H' : Hp), (∀ b o, b ≠ p → H b = some o → H' b = some o) → H' p = some (.ins CC dx (cdF k x text tt tp)) → H' tt = some (.tup ((linesOfM text).map V.str)) → SqT K H' tp (ps.map V.ref) → Objs K C H' ps Ls → ∀ σ, D.nx σ H') →
          tE D [some (.ref p), some (.str k), some (.str x), some (.str text), some (.ref pt), some (.ref tp), x6, x7] H1 := by
      refine ⟨_, PSs.nox (pss_cons (ps_fld (pv 0) (pv 1) rfl) (pss_cons (ps_fld (pv 0) (pv 2) rfl) (pss_cons (ps_fld (pv 0) (pv 3) rfl) (pss_cons (ps_fld (pv 0) (pe_tupleOf (by rfl) T.tup (pv 4)) rfl) (pss_one (ps_fld (pv 0) (pv 5) rfl)))))), ?_⟩
      intro D k x text pt tp ps Ls x6 x7 H1 h1p h1t old hsq hob next
      refine ⟨_, rfl, _, rfl, p, CC, dx, _, rfl, h1p, TT.cl, TT.no _ (by simp [codeNames]), lt1000 nil_lt, _, rfl, _, rfl, p, CC, dx, _, rfl, upd_same, TT.cl, TT.no _ (by simp [codeNames]), lt1000 (putF_lt nil_lt), _, rfl, _, rfl, p, CC, dx, _, rfl, upd_same, TT.cl, TT.no _ (by simp [codeNames]), lt1000 (putF_lt (putF_lt nil_lt)), ?_⟩
      rw [upd_upd, upd_upd]
      have tp_ : pt ≠ p := ne_of h1t h1p (fun z => nomatch z)
      refine ⟨_, rfl, .inl ⟨pt, _, rfl, SqL.of (by rw [upd_ne tp_]; exact h1t), fun tt htt => ?_⟩⟩
      have tn : tt ≠ p := by
        rintro rfl
        rw [upd_same] at htt; cases htt
      have tn1 : H1 tt = none := by rw [upd_ne tn] at htt; exact htt
      refine ⟨_, rfl, p, CC, dx, _, rfl, (same_upd htt) _ _ upd_same, TT.cl, TT.no _ (by simp [codeNames]), lt1000 (putF_lt (putF_lt (putF_lt nil_lt))), _, rfl, _, rfl, p, CC, dx, _, rfl, upd_same, TT.cl, TT.no _ (by simp [codeNames]), lt1000 (putF_lt (putF_lt (putF_lt (putF_lt nil_lt)))), ?_⟩
      rw [upd_upd, cd_made]
      have ex : ∀ b o, b ≠ p → H1 b = some o → upd (upd (upd H1 p (.ins CC dx (putF "text" (.str text) (putF "way" (.str x) (putF "kind" (.str k) []))))) tt (.tup ((linesOfM text).map V.str))) p (.ins CC dx (cdF k x text tt tp)) b = some o := fun b o e q => by
        rw [upd_ne e, upd_ne (ne_of_none q tn1), upd_ne e]
        exact q
      refine next tt tp ps _ (fun b o e q => ex b o e (old b o e q)) upd_same ?_ ?_ ?_ _
      · rw [upd_ne tn, upd_same]
      · exact sqT_but h1p ex hsq
      · exact objs_but h1p ex hob
    refine ⟨_, pss_cons (ps_if (pt_not (pt_val (pe_call Gk hr1 (by rfl) gk kk bk .nil pass0 (pa_cons (pv 1) pa_nil)))) (pss_one (ps_raiseX rfl X.kind hr1 (takes_of rfl rfl rfl rfl) (pa_cons (pv 1) pa_nil))) pss_nil)
      (pss_cons (ps_if (pt_not (pt_val (pe_call Gy hr1 (by rfl) gy ky by_ .nil pass0 (pa_cons (pv 2) pa_nil)))) (pss_one (ps_raiseX rfl X.way hr1 (takes_of rfl rfl rfl rfl) (pa_cons (pv 2) pa_nil))) pss_nil)
      (pss_cons (ps_set (i := 4) scCI.nd rfl (Or.inl rfl) (pe_call Gl_ hr1 (by rfl) gl kl bl .nil pass0 (pa_cons (pv 3) pa_nil)))
      (pss_cons (ps_if (pt_cmpR op_gt (pe_callB call_len_seq (by rfl) T.len PySem.boot_len (pa_cons (pv 4) pa_nil)) (pe_glob (v := .int 60) (by rfl) g60 ⟨t60, rfl⟩) (nomark _)) (pss_one (ps_raiseX rfl X.many hr1 (takes_of rfl rfl rfl rfl) (pa_cons pe_str (pa_cons (pe_callB call_len_seq (by rfl) T.len PySem.boot_len (pa_cons (pv 4) pa_nil)) (pa_cons (pe_glob (v := .int 60) (by rfl) g60 ⟨t60, rfl⟩) pa_nil))))) pss_nil)
      (pss_cons (ps_set (i := 5) scCI.nd rfl (Or.inl rfl) (pe_call (E := E) Gp hr (by rfl) gp kp bp .nil (passes_call (takes_of rfl rfl rfl rfl) (fun _ _ _ _ z => z)) (pa_cons (pv 4) pa_nil)))
      (pss_cons (ps_set (i := 6) scCI.nd rfl (Or.inl rfl) (pe_call Gi hr1 (by rfl) gi ki bi .nil pass0 (pa_cons (pv 5) pa_nil)))
      (pss_cons (ps_if (pt_cmpR op_gt (pv 6) (pe_glob (v := .int 7) (by rfl) g7 ⟨t7, rfl⟩) (nomark _)) (pss_one (ps_raiseX rfl X.many hr1 (takes_of rfl rfl rfl rfl) (pa_cons pe_str (pa_cons (pv 6) (pa_cons (pe_glob (v := .int 7) (by rfl) g7 ⟨t7, rfl⟩) pa_nil))))) pss_nil)
      (pss_cons (ps_set (i := 7) scCI.nd rfl (Or.inl rfl) (pe_call Gr hr4 (by rfl) gr kr br .nil pass0 (pa_cons (pv 1) (pa_cons (pv 2) (pa_cons (pv 4) (pa_cons (pv 5) pa_nil))))))
      (pss_cons (ps_if (pt_cmpR op_gt (pe_callB call_len_seq (by rfl) T.len PySem.boot_len (pa_cons (pv 7) pa_nil)) pe_int (nomark _)) pss_no pss_nil)
      pE)))))))), ?_⟩
    rcases h with ⟨bk1, hz⟩ | ⟨k, rfl, hk, h⟩
    · -- no kind
      rcases bk1 with ⟨z, rfl, hz1⟩ | ns
      · refine ⟨_, rfl, .str z, rfl, .inl ⟨z, rfl, kindM z, rfl, ?_⟩⟩
        rw [hz1]
        exact iteT ⟨_, rfl, rfl, fun h => (nomatch h), fun _ dd hd => hz H dd (Same.refl _) hd⟩
      · refine ⟨_, rfl, vk, rfl, .inr ⟨ns, false, rfl, iteT ⟨_, rfl, rfl, fun h => (nomatch h), fun _ dd hd => hz H dd (Same.refl _) hd⟩⟩⟩
    · refine ⟨_, rfl, .str k, rfl, .inl ⟨k, rfl, kindM k, rfl, ?_⟩⟩
      rw [hk]
      refine iteF ?_
      rcases h with ⟨by1, hz⟩ | ⟨x, rfl, hx, ha, hl, hl2, hl3, h⟩
      · rcases by1 with ⟨z, rfl, hz1⟩ | ns
        · refine ⟨_, rfl, .str z, rfl, .inl ⟨z, rfl, wayM z, rfl, ?_⟩⟩
          rw [hz1]
          exact iteT ⟨_, rfl, rfl, fun h => (nomatch h), fun _ dd hd => hz H dd (Same.refl _) hd⟩
        · refine ⟨_, rfl, vw, rfl, .inr ⟨ns, false, rfl, iteT ⟨_, rfl, rfl, fun h => (nomatch h), fun _ dd hd => hz H dd (Same.refl _) hd⟩⟩⟩
      · refine ⟨_, rfl, .str x, rfl, .inl ⟨x, rfl, wayM x, rfl, ?_⟩⟩
        rw [hx]
        refine iteF ⟨_, rfl, text, rfl, by omega, fun pt hpt => ?_⟩
        have s1 := same_upd (o := .lst ((linesOfM text).map V.str)) hpt
        have t1 : upd H pt (.lst ((linesOfM text).map V.str)) pt = some (.lst ((linesOfM text).map V.str)) := upd_same
        generalize upd H pt (.lst ((linesOfM text).map V.str)) = H1 at *
        refine ⟨_, rfl, pt, _, rfl, .inl (SqL.of t1), _, _, rfl, rfl, _, rfl, ?_⟩
        rw [List.length_map]
        rcases h with ⟨many, hz⟩ | ⟨few, n, r, hp1, h⟩
        · refine ifT (decide_eq_true (by show (60 : Int) < ((linesOfM text).length : Nat); omega)) ⟨_, rfl, pt, _, rfl, .inl (SqL.of t1), rfl, fun h => (nomatch h), fun _ dd hd => ?_⟩
          rw [List.length_map]
          exact hz H1 dd s1 hd
        · refine ifF (decide_eq_false (by show ¬ (60 : Int) < ((linesOfM text).length : Nat); omega)) ?_
          refine ⟨_, rfl, pt, linesOfM text, n, r, rfl, SqL.of t1, asc_parts ha hl, hl3, hp1, fun m e => ?_, fun Ls e t ps H2 sq ob s2 fr => ?_⟩
          · rcases h with ⟨m', e', hz⟩ | ⟨Ls, e', _⟩
            · rw [e'] at e
              cases e
              exact hz.keep s1
            · rw [e'] at e; cases e
          · rcases h with ⟨m', e', hz⟩ | ⟨Ls', e', h⟩
            · rw [e'] at e; cases e
            · rw [e'] at e
              cases e
              have s12 := s1.trans s2
              have t2 := s2 _ _ t1
              have Lsl : Ls.length ≤ 1000 := by
                have : Ls.length = (linesOfM text).length := by
                  subst e'
                  exact programM_len hp1
                omega
              refine ⟨_, rfl, t, ps, Ls, rfl, sq, ob, Lsl, fun H3 s3 => ?_⟩
              refine ⟨_, rfl, _, _, rfl, rfl, _, rfl, ?_⟩
              rcases h with ⟨many, hz⟩ | ⟨few7, qm, fin⟩
              · refine ifT (decide_eq_true (by show (7 : Int) < (ifsM Ls : Nat); omega)) ⟨_, rfl, rfl, fun h => (nomatch h), fun _ dd hd => hz H3 dd (s12.trans s3) hd⟩
              · refine ifF (decide_eq_false (by show ¬ (7 : Int) < (ifsM Ls : Nat); omega)) ?_
                have s123 := s12.trans s3
                refine ⟨_, rfl, _, rfl, _, rfl, _, rfl, k, x, pt, t, linesOfM text, ps, Ls, rfl, SqL.of (s3 _ _ t2), fun z hz => (asc_parts ha hl z hz).1, hl3, s3.sqT sq, ob.same s3, qm, fun r4 H4 hr4 s4 h4 => ?_⟩
                refine ⟨_, rfl, r4, _, rfl, .inl (SqL.of h4), _, _, rfl, rfl, _, rfl, ifF (by rfl) ?_⟩
                have s1234 := s123.trans s4
                exact qE _ k x text pt t ps Ls _ _ H4 (s1234 _ _ hp) (s4 _ _ (s3 _ _ t2)) (fun b o _ q => s1234 _ _ q) ((s3.trans s4).sqT sq) ((ob.same s3).same s4) fun tt tp ps H' o1 o2 o3 o4 o5 σ => fin tt tp ps H' o1 o2 o3 o4 o5
end
end K40

namespace L2
open PySem PySem.Spec PyProof.Rows PySem.RingX
/-- isinstance(e, (c1, c2)), e the exception that the suite holds -/
def rIsXT (K : PySem.W.Frag) (a : Addr) (cls : Value) (d : Option Addr) : List V → Hp → VK → Prop := fun xs H Q => ∃ (tp : Addr) (cs : List V) (us : List Value) (C : Addr) (b : Bool), xs = [.ref a, .ref tp] ∧ H tp = some (.tup cs) ∧ Paired ClsV cs us ∧ cls = .ref C ∧ ExcC K C ∧ DictAt H d ∧ PySem.W.kitAny K (.ref C) us = some b ∧ Q (.bl b) H
theorem call_isXT {X : Cx} {a : Addr} {oe : Obj} {cls : Value} {d : Option Addr} {pn : List (Addr × Obj)} (hz : Zc cls d oe) (hf : ∃ vs, oe.data = .fields vs) : CallR (X.suite a ((a, oe) :: pn)) (.builtin "isinstance") (rIsXT X.K a cls d) := by
  intro pins s σ H xs us Q I r h
  obtain ⟨tp, cs, ws, C, b, rfl, hT, k, rfl, K, D, e, q⟩ := h
  obtain ⟨u1, u2, rfl, r1, r2⟩ := vals2 r
  cases (show u1 = Value.ref a from r1)
  cases (show u2 = Value.ref tp from r2)
  obtain ⟨hget, _⟩ := I.pin (a, oe) (List.mem_append.mpr (.inl List.mem_cons_self))
  obtain ⟨od, J⟩ := D.get I.hok hget hz hf
  obtain ⟨_, its, rv, o, h1, h2, n, h3⟩ := (show ObjOk X.prog X.w H s.heap tp (.tup cs) from I.hok tp _ hT)
  have e3 := ClsV.all k rv
  subst e3
  obtain ⟨oc, odd, dt, sl⟩ := o
  simp only at h2 h3
  subst h2 h3
  exact PySem.W.kia_tup (PySem.W.kitx_exc (od := od) (by obtain ⟨cd, hc, _⟩ := PySem.W.any_some K.hd; rw [hc]; rfl) K.hg K.hk K.hs K.ha K.hn K.ht K.hm) I.kIn J h1 e (fun z => nomatch z) fun tk => ⟨.bl b, H, I.tok tk, rfl, q⟩
theorem TyX.keep {K : PySem.W.Frag} {H H' : Hp} {v : V} {t : Value} (h : TyX K H v t) (s : Same H H') : TyX K H' v t := by
  cases h with
  | base h =>
    refine .base ?_
    cases h with
    | non => exact .non
    | bl x => exact .bl x
    | int i => exact .int i
    | str x => exact .str x
    | flt x => exact .flt x
    | lst e => exact .lst (s _ _ e)
    | frz e => exact .frz (s _ _ e)
    | tup e => exact .tup (s _ _ e)
    | dK e => exact .dK (s _ _ e)
    | dT e => exact .dT (s _ _ e)
    | ins e cl ha hn htk hm => exact .ins (s _ _ e) cl ha hn htk hm
  | byt b => exact .byt b
  | set e => exact .set (s _ _ e)
  | kList e c => exact .kList e c
  | kTuple e c => exact .kTuple e c
  | kDict e c => exact .kDict e c
  | fTuple e => exact .fTuple (s _ _ e)
  | fDict e => exact .fDict (s _ _ e)
end L2
namespace K40
open PySem PySem.Spec PyProof.Rows L2 Fm PySem.RingX
theorem NotStr.keep {K : PySem.W.Frag} {H H' : Hp} {v : V} (n : NotStr K H v) (s : Same H H') : NotStr K H' v := by
  obtain ⟨T, h1, h2⟩ := n
  exact ⟨T, h1.keep s, h2⟩
theorem Rz3.keep {C : Addr} {a b c : V} {H H1 : Hp} {E : XK} (x : Rz3 C a b c H E) (s : Same H H1) : Rz3 C a b c H1 E := fun H' dd s1 n => x H' dd (s.trans s1) n
section
variable {P : Program} {w : World} {K : PySem.W.Frag} {mg : Str → Option Value} {base : Heap}
theorem CodeC.keep {CK CY CL CM : Addr} {vk vw : V} {text : Str} {H H' : Hp} {E : XK} {fin fin' : Str → Str → List LineM → Prop} (c : CodeC K CK CY CL CM vk vw text H E fin) (s : Same H H') (f : ∀ k x Ls, vk = .str k → vw = .str x → fin k x Ls → fin' k x Ls) : CodeC K CK CY CL CM vk vw text H' E fin' := by
  rcases c with ⟨h1, h2⟩ | ⟨k, rfl, hk, h⟩
  · exact .inl ⟨h1.imp id fun n => n.keep s, h2.keep s⟩
  · refine .inr ⟨k, rfl, hk, ?_⟩
    rcases h with ⟨h1, h2⟩ | ⟨x, rfl, hx, ha, hl, hl2, hl3, h⟩
    · exact .inl ⟨h1.imp id fun n => n.keep s, h2.keep s⟩
    · refine .inr ⟨x, rfl, hx, ha, hl, hl2, hl3, ?_⟩
      rcases h with ⟨h1, h2⟩ | ⟨h1, n, r, h2, h⟩
      · exact .inl ⟨h1, h2.keep s⟩
      · refine .inr ⟨h1, n, r, h2, ?_⟩
        rcases h with ⟨m, e, h3⟩ | ⟨Ls, e, h⟩
        · exact .inl ⟨m, e, h3.keep s⟩
        · refine .inr ⟨Ls, e, ?_⟩
          rcases h with ⟨h3, h4⟩ | ⟨h3, h4, h5⟩
          · exact .inl ⟨h3, h4.keep s⟩
          · exact .inr ⟨h3, h4, f k x Ls rfl rfl h5⟩
/-- a code at p, with its lines -/
def CodeP (K : PySem.W.Frag) (C CC : Addr) (H : Hp) (p : Addr) (k x text : Str) (Ls : List LineM) : Prop := ∃ (dx tt tp : Addr) (ps : List Addr), H p = some (.ins CC dx (cdF k x text tt tp)) ∧ SqT K H tp (ps.map V.ref) ∧ Objs K C H ps Ls
theorem CodeP.same {C CC : Addr} {H H' : Hp} {p : Addr} {k x text : Str} {Ls : List LineM} (c : CodeP K C CC H p k x text Ls) (s : Same H H') : CodeP K C CC H' p k x text Ls := by
  obtain ⟨dx, tt, tp, ps, h1, h2, h3⟩ := c
  exact ⟨dx, tt, tp, ps, s _ _ h1, s.sqT h2, h3.same s⟩
/-- what a call of the class reads -/
theorem code_made {C CC CK CY CL CM : Addr} {vk vw : V} {text : Str} {H : Hp} {E : XK} {Q : VK} (c : CodeC K CK CY CL CM vk vw text H E fun k x Ls => ∀ (q : Addr) (H' : Hp), H q = none → Same H H' → CodeP K C CC H' q k x text Ls → Q (.ref q) H') :
    ∀ x dx, H x = none → H dx = none → dx ≠ x → spCodeI K C CC CK CY CL CM (.ref x :: ([vk, vw, V.str text] ++ [])) (upd (upd H dx (.own x)) x (.ins CC dx [])) (fun v H2 => v = .non ∧ Q (.ref x) H2) E := fun q dx hq hdx hne => by
  have s : Same H (upd (upd H dx (.own q)) q (.ins CC dx [])) := fun b o h => by
    rw [upd_ne (ne_of_none h hq), upd_ne (ne_of_none h hdx)]; exact h
  refine ⟨q, dx, vk, vw, text, rfl, upd_same, c.keep s fun k x Ls _ _ f tt tp ps H' o1 o2 o3 o4 o5 => ⟨rfl, f q H' hq (fun b o h => o1 b o (ne_of_none h hq) (s _ _ h)) ⟨dx, tt, tp, ps, o2, o4, o5⟩⟩⟩
/-- what the class Code wants and gives -/
structure CodeK (P : Program) (w : World) (K : PySem.W.Frag) (mg : Str → Option Value) (base : Heap) (C CC CK CY CL CM : Addr) : Prop where
  t : ClsT K mg CC "Code" codeNames
  mkr : ∃ fI fd, Mk K CC fI ∧ FnOk P w K mg base (L2.CX P w) 10 fI fd ["self", "kind", "way", "text"] (spCodeI K C CC CK CY CL CM) ∧ L2.Binds K fd ["self", "kind", "way", "text"] []
end
end K40

namespace K40
open PySem PySem.Spec PyProof.Rows L2
abbrev sBag : Stmt := s__law_bag
abbrev sDraw : Stmt := s__law_draw

/-! ### the bag -/
def bagK (c : Addr) (at_ dg ct fo : Int) : List (Key × V) := [(.inr "cells", .ref c), (.inr "at", .int at_), (.inr "digits", .int dg), (.inr "count", .int ct), (.inr "fold", .int fo)]
theorem bag_cells (c : Addr) (at_ dg ct fo : Int) : valV (bagK c at_ dg ct fo) (.inr "cells") = some (.ref c) := by kernel_rfl
theorem bag_at (c : Addr) (at_ dg ct fo : Int) : valV (bagK c at_ dg ct fo) (.inr "at") = some (.int at_) := by kernel_rfl
theorem bag_dg (c : Addr) (at_ dg ct fo : Int) : valV (bagK c at_ dg ct fo) (.inr "digits") = some (.int dg) := by kernel_rfl
theorem bag_ct (c : Addr) (at_ dg ct fo : Int) : valV (bagK c at_ dg ct fo) (.inr "count") = some (.int ct) := by kernel_rfl
theorem bag_fo (c : Addr) (at_ dg ct fo : Int) : valV (bagK c at_ dg ct fo) (.inr "fold") = some (.int fo) := by kernel_rfl
theorem put_at (c : Addr) (at_ dg ct fo z : Int) : putK (bagK c at_ dg ct fo) (.inr "at") (.int z) = bagK c z dg ct fo := by kernel_rfl
theorem put_dg (c : Addr) (at_ dg ct fo z : Int) : putK (bagK c at_ dg ct fo) (.inr "digits") (.int z) = bagK c at_ z ct fo := by kernel_rfl
theorem put_ct (c : Addr) (at_ dg ct fo z : Int) : putK (bagK c at_ dg ct fo) (.inr "count") (.int z) = bagK c at_ dg z fo := by kernel_rfl
theorem put_fo (c : Addr) (at_ dg ct fo z : Int) : putK (bagK c at_ dg ct fo) (.inr "fold") (.int z) = bagK c at_ dg ct z := by kernel_rfl
theorem bag_mk (c : Addr) (fo : Int) : mergeK [] (bagK c 0 0 0 fo) = bagK c 0 0 0 fo := by kernel_rfl

/-- a bag at b over the script ns, its cells at c, from which ct draws were made -/
structure BagAt (H : Hp) (b c : Addr) (ns : List Int) (ct : Int) : Prop where
  ex : ∃ (at_ dg fo : Int), H b = some (.dK (bagK c at_ dg ct fo)) ∧ H c = some (.lst (ns.map V.int)) ∧ 0 ≤ at_ ∧ 0 ≤ dg ∧ 0 ≤ fo ∧ fo < 2147483587
theorem BagAt.keep {H H' : Hp} {b c : Addr} {ns : List Int} {ct : Int} (B : BagAt H b c ns ct) (s : Same H H') : BagAt H' b c ns ct := by
  obtain ⟨at_, dg, fo, h1, h2, h3⟩ := B.ex
  exact ⟨at_, dg, fo, s _ _ h1, s _ _ h2, h3⟩
theorem BagAt.updl {H : Hp} {b c D : Addr} {ns : List Int} {ct : Int} {o : HO} (B : BagAt H b c ns ct) (nb : b ≠ D) (nc : c ≠ D) : BagAt (upd H D o) b c ns ct := by
  obtain ⟨at_, dg, fo, h1, h2, h3⟩ := B.ex
  exact ⟨at_, dg, fo, by rw [upd_ne nb]; exact h1, by rw [upd_ne nc]; exact h2, h3⟩
theorem BagAt.dk {H : Hp} {b c : Addr} {ns : List Int} {ct : Int} (B : BagAt H b c ns ct) : ∃ kvs, H b = some (.dK kvs) :=
  let ⟨_, _, _, h, _⟩ := B.ex; ⟨_, h⟩
/-- a new object is neither the bag nor its cells -/
theorem BagAt.off {H : Hp} {b c D : Addr} {ns : List Int} {ct : Int} (B : BagAt H b c ns ct) (hD : H D = none) : b ≠ D ∧ c ≠ D := by
  obtain ⟨at_, dg, fo, h1, h2, _⟩ := B.ex
  exact ⟨ne_of_none h1 hD, ne_of_none h2 hD⟩
/-- all that was tracked is as it was, but what stands at b -/
def SameBut (b : Addr) (H H' : Hp) : Prop := ∀ q o, q ≠ b → H q = some o → H' q = some o
theorem SameBut.refl (b : Addr) (H : Hp) : SameBut b H H := fun _ _ _ h => h
theorem SameBut.trans {b : Addr} {H H1 H2 : Hp} (x : SameBut b H H1) (y : SameBut b H1 H2) : SameBut b H H2 := fun q o hq h => y q o hq (x q o hq h)
theorem SameBut.of {b : Addr} {H H1 : Hp} (x : Same H H1) : SameBut b H H1 := fun q o _ h => x q o h
theorem SameBut.upd {b : Addr} {H H1 : Hp} (x : SameBut b H H1) (o : HO) : SameBut b H (upd H1 b o) := fun q u hq h => by rw [upd_ne hq]; exact x q u hq h

def spDraw : Sp := fun vs H Q _ => ∃ (b c : Addr) (lim : Int) (ns : List Int) (ct : Int), vs = [.ref b, .int lim] ∧ BagAt H b c ns ct ∧ 0 ≤ ct ∧ ct < 1000000 ∧ 0 < lim ∧ lim < 2 ^ 200 ∧ ns.length < 1000 ∧
  ∀ (r : Int) (H' : Hp), 0 ≤ r → r < lim → BagAt H' b c ns (ct + 1) → SameBut b H H' → Q (.int r) H'
def spBag (K : PySem.W.Frag) : Sp := fun vs H Q _ => ∃ (a : Addr) (ns : List Int), vs = [.ref a] ∧ SqL K H a (ns.map V.int) ∧ ns.length < 1000 ∧ ∀ (b c : Addr) (H' : Hp), H b = none → BagAt H' b c ns 0 → Same H H' → Q (.ref b) H'

theorem sq_upd {K : PySem.W.Frag} {H : Hp} {a b : Addr} {xs : List V} {kvs : List (Key × V)} {o : HO} (h : SqL K H a xs) (hb : H b = some (.dK kvs)) : SqL K (upd H b o) a xs := by
  rcases h with (h | ⟨u, h⟩) | h
  · exact .inl (.inl (by rw [upd_ne (ne_of h hb (fun z => nomatch z))]; exact h))
  · exact .inl (.inr ⟨u, by rw [upd_ne (ne_of h hb (fun z => nomatch z))]; exact h⟩)
  · exact .inr h
theorem small5 {c : Addr} {at_ dg ct fo : Int} : (bagK c at_ dg ct fo).length < sizeLine := by show 5 < sizeLine; decide
/-- the bag as it stands, in a def that draws -/
structure BG (K : PySem.W.Frag) (H0 H : Hp) (b c : Addr) (ns : List Int) (at_ dg ct fo : Int) : Prop where
  h : H b = some (.dK (bagK c at_ dg ct fo))
  q : SqL K H c (ns.map V.int)
  s : SameBut b H0 H
section
variable {K : PySem.W.Frag} {H0 H : Hp} {b c : Addr} {ns : List Int} {a_ d_ n_ f_ : Int}
theorem BG.at_ (B : BG K H0 H b c ns a_ d_ n_ f_) (z : Int) : BG K H0 (upd H b (.dK (putK (bagK c a_ d_ n_ f_) (.inr "at") (.int z)))) b c ns z d_ n_ f_ := ⟨by rw [upd_same, put_at], sq_upd B.q B.h, B.s.upd _⟩
theorem BG.dg (B : BG K H0 H b c ns a_ d_ n_ f_) (z : Int) : BG K H0 (upd H b (.dK (putK (bagK c a_ d_ n_ f_) (.inr "digits") (.int z)))) b c ns a_ z n_ f_ := ⟨by rw [upd_same, put_dg], sq_upd B.q B.h, B.s.upd _⟩
theorem BG.ct (B : BG K H0 H b c ns a_ d_ n_ f_) (z : Int) : BG K H0 (upd H b (.dK (putK (bagK c a_ d_ n_ f_) (.inr "count") (.int z)))) b c ns a_ d_ z f_ := ⟨by rw [upd_same, put_ct], sq_upd B.q B.h, B.s.upd _⟩
theorem BG.fo (B : BG K H0 H b c ns a_ d_ n_ f_) (z : Int) : BG K H0 (upd H b (.dK (putK (bagK c a_ d_ n_ f_) (.inr "fold") (.int z)))) b c ns a_ d_ n_ z := ⟨by rw [upd_same, put_fo], sq_upd B.q B.h, B.s.upd _⟩
theorem BG.gc (B : BG K H0 H b c ns a_ d_ n_ f_) : DGet H b (.str "cells") (some (.ref c)) := by have z := DGet.k (k := Sum.inr "cells") B.h; rw [bag_cells] at z; exact z
theorem BG.ga (B : BG K H0 H b c ns a_ d_ n_ f_) : DGet H b (.str "at") (some (.int a_)) := by have z := DGet.k (k := Sum.inr "at") B.h; rw [bag_at] at z; exact z
theorem BG.gd (B : BG K H0 H b c ns a_ d_ n_ f_) : DGet H b (.str "digits") (some (.int d_)) := by have z := DGet.k (k := Sum.inr "digits") B.h; rw [bag_dg] at z; exact z
theorem BG.gn (B : BG K H0 H b c ns a_ d_ n_ f_) : DGet H b (.str "count") (some (.int n_)) := by have z := DGet.k (k := Sum.inr "count") B.h; rw [bag_ct] at z; exact z
theorem BG.gf (B : BG K H0 H b c ns a_ d_ n_ f_) : DGet H b (.str "fold") (some (.int f_)) := by have z := DGet.k (k := Sum.inr "fold") B.h; rw [bag_fo] at z; exact z
theorem BG.out (B : BG K H0 H b c ns a_ d_ n_ f_) (hc : H0 c = some (.lst (ns.map V.int))) (nc : c ≠ b) (h1 : 0 ≤ a_) (h2 : 0 ≤ d_) (h3 : 0 ≤ f_) (h4 : f_ < 2147483587) : BagAt H b c ns n_ := ⟨a_, d_, f_, B.h, B.s _ _ nc hc, h1, h2, h3, h4⟩
end
structure BTxt (mg : Str → Option Value) : Prop where
  len : mg "len" = none
  int : mg "int" = none
  list : mg "list" = none
section
variable {P : Program} {w : World} {K : PySem.W.Frag} {mg : Str → Option Value} {base : Heap}
theorem scD : FnScope ["bag", "limit", "cell", "digit", "base"] ["bag", "limit"] (defScope sDraw) := ⟨rfl, rfl, rfl, by decide +kernel, rfl, by decide +kernel, by decide +kernel⟩
theorem ok_draw {f : Addr} {fd : FuncData} (F : Fun K "_law_draw" "_law_draw" sDraw f fd) (T : BTxt mg) : FnOk P w K mg base CX0 1 f fd ["bag", "limit"] spDraw := by
  refine F.ok scD (fun vs H Q E h => ?_) (fun cdv A outer s H vs Q E hr h => ?_)
  · obtain ⟨b, c, lim, ns, ct, rfl, _⟩ := h
    rfl
  · obtain ⟨b, c, lim, ns, ct, rfl, ⟨at_, dg, fo, hb, hc, h1, h2, h3, h4⟩, hct, hct2, hl, hl2, hns, k⟩ := h
    have nc : c ≠ b := ne_of hc hb (fun z => nomatch z)
    have hu := hu_of hr
    -- behind the first if
    obtain ⟨t2, p2, q2⟩ : ∃ t2, PSs (cxOf CX0 P w K mg base ["bag", "limit", "cell", "digit", "base"] "_law_draw" (defScope sDraw) f cdv A outer s H E).nox ((defBody sDraw).drop 2) t2 ∧
        ∀ (v2 : Option V) (H1 : Hp) (a1 d1 f1 : Int), BG K H H1 b c ns a1 d1 (ct + 1) f1 → 0 ≤ a1 → 0 ≤ d1 → 0 ≤ f1 → f1 < 2147483587 → t2 { nx := fun _ H' => Q .non H', rt := Q } [some (.ref b), some (.int lim), v2, none, none] H1 := by
      refine ⟨_, pss_cons (ps_if (pt_cmpR op_gt (pe_dget hu (pv 0) pe_str (fun _ _ => rfl)) pe_int (nomark _))
        (pss_cons (ps_set (i := 3) scD.nd rfl (Or.inl rfl) (pe_op op_mod (pe_callTy call_int1 (by rfl) T.int (by decide +kernel) (pa_cons (pe_dget hu (pv 0) pe_str (fun _ _ => rfl)) pa_nil)) (pv 1)))
        (pss_cons (ps_dput hu (pv 0) pe_str (pe_op op_fdivW (pe_dget hu (pv 0) pe_str (fun _ _ => rfl)) (pv 1)) rfl)
        (pss_one (ps_ret (pv 3))))) pss_nil)
      (pss_cons (ps_set (i := 4) scD.nd rfl (Or.inl rfl) (pe_op op_add (pe_op op_add (pe_dget hu (pv 0) pe_str (fun _ _ => rfl)) (pe_op op_mul (pe_dget hu (pv 0) pe_str (fun _ _ => rfl)) pe_int)) pe_int))
      (pss_one (ps_ret (pe_op op_mod (pe_op op_fdiv (pe_callTy call_int1 (by rfl) T.int (by decide +kernel) (pa_cons (pe_op op_mod (pe_op op_pow (pv 4) pe_int) pe_int) pa_nil)) pe_int) (pv 1))))), ?_⟩
      intro v2 H1 a1 d1 f1 B x1 x2 x3 x4
      have hlw : CDivW d1 lim := wide_div (b := 200) hl (by omega) (by decide) (by decide)
      refine ⟨_, rfl, b, _, rfl, B.gd, _, _, rfl, rfl, _, rfl, ite2 (fun c1 => ?_) (fun c1 => ?_)⟩
      · -- a digit
        refine ⟨_, rfl, b, _, rfl, B.gd, .inl ⟨_, rfl, _, rfl, _, _, rfl, rfl, hl, ?_⟩⟩
        refine ⟨_, rfl, b, _, rfl, B.gd, _, rfl, _, _, rfl, rfl, hlw, _, rfl, b, _, rfl, DPut.k (k := Sum.inr "digits") B.h small5, ?_⟩
        have B2 := B.dg (d1 / lim)
        refine ⟨_, rfl, ?_⟩
        exact k _ _ (Int.emod_nonneg _ (by omega)) (Int.emod_lt_of_pos _ hl) (B2.out hc nc x1 (Int.ediv_nonneg x2 (by omega)) x3 x4) B2.s
      · -- from the fold
        refine ⟨_, rfl, b, _, rfl, B.gf, _, rfl, b, _, rfl, B.gn, _, _, rfl, rfl, .inl ⟨by omega, by omega⟩, _, _, rfl, rfl, _, _, rfl, rfl, ?_⟩
        refine ⟨_, rfl, _, _, rfl, rfl, ⟨by decide, by decide, by omega⟩, _, _, rfl, rfl, (by show (0 : Int) < 2305843009213693951; decide), .inl ⟨_, rfl, _, _, rfl, rfl, ⟨by decide, by decide⟩, _, rfl, _, _, rfl, rfl, hl, ?_⟩⟩
        exact k _ _ (Int.emod_nonneg _ (by omega)) (Int.emod_lt_of_pos _ hl) (B.out hc nc x1 x2 x3 x4) B.s
    refine ⟨_, pss_cons (ps_dput hu (pv 0) pe_str (pe_op op_add (pe_dget hu (pv 0) pe_str (fun _ _ => rfl)) pe_int) rfl)
      (pss_cons (ps_if (PW.pt (pw_and (pt_cmpR op_eq (pe_dget hu (pv 0) pe_str (fun _ _ => rfl)) pe_int (nomark _))
          (pw_and1 (pt_cmpR op_lt (pe_dget hu (pv 0) pe_str (fun _ _ => rfl)) (pe_callB call_len_seq (by rfl) T.len PySem.boot_len (pa_cons (pe_dget hu (pv 0) pe_str (fun _ _ => rfl)) pa_nil)) (nomark _)))))
        (pss_cons (ps_set (i := 2) scD.nd rfl (Or.inl rfl) (pe_ix ix_list (pe_dget hu (pv 0) pe_str (fun _ _ => rfl)) (pe_dget hu (pv 0) pe_str (fun _ _ => rfl)) (fun _ _ => rfl)))
        (pss_cons (ps_dput hu (pv 0) pe_str (pe_op op_add (pe_dget hu (pv 0) pe_str (fun _ _ => rfl)) pe_int) rfl)
        (pss_one (ps_if (pt_cmpR op_ge (pv 2) (pe_op op_pow pe_int pe_int) (nomark _))
          (pss_one (ps_dput hu (pv 0) pe_str (pe_op op_sub (pv 2) (pe_op op_pow pe_int pe_int)) rfl))
          (pss_one (ps_dput hu (pv 0) pe_str (pe_op op_mod (pe_callTy call_int1 (by rfl) T.int (by decide +kernel) (pa_cons (pe_op op_add (pe_op op_mul (pe_dget hu (pv 0) pe_str (fun _ _ => rfl)) pe_int) (pv 2)) pa_nil)) pe_int) rfl))))))
        pss_nil) p2), ?_⟩
    have B0 : BG K H H b c ns at_ dg ct fo := ⟨hb, SqL.of hc, SameBut.refl _ _⟩
    -- bag['count'] = bag['count'] + 1
    refine ⟨_, rfl, b, _, rfl, B0.gn, _, _, rfl, rfl, _, rfl, b, _, rfl, DPut.k (k := Sum.inr "count") B0.h small5, ?_⟩
    have B1 := B0.ct (ct + 1)
    refine ⟨_, rfl, b, _, rfl, B1.gd, rfl, _, rfl, ?_⟩
    refine ite2 (fun c1 => ?_) (fun c1 => ?_)
    · refine ⟨_, rfl, b, _, rfl, B1.ga, _, rfl, b, _, rfl, B1.gc, c, _, rfl, .inl B1.q, _, _, rfl, rfl, _, rfl, ?_⟩
      refine ite2 (fun c2 => ?_) (fun c2 => ?_)
      · have hlt : at_ < (ns.map V.int).length := of_decide_eq_true c2
        rw [List.length_map] at hlt
        obtain ⟨j, ej⟩ : ∃ j : Nat, at_ = (j : Int) := ⟨at_.toNat, by omega⟩
        have hj : j < ns.length := by omega
        have hget : (ns.map V.int)[j]? = some (V.int ns[j]) := by rw [List.getElem?_map, List.getElem?_eq_getElem hj]; rfl
        refine ⟨_, rfl, b, _, rfl, B1.gc, _, rfl, b, _, rfl, B1.ga, c, _, _, _, rfl, rfl, B1.q, by rw [ej]; exact atI_nat hget, ?_⟩
        refine ⟨_, rfl, b, _, rfl, B1.ga, _, _, rfl, rfl, _, rfl, b, _, rfl, DPut.k (k := Sum.inr "at") B1.h small5, ?_⟩
        have B2 := B1.at_ (at_ + 1)
        refine ⟨_, rfl, _, _, rfl, rfl, ⟨by decide, by decide, by decide⟩, _, _, rfl, rfl, _, rfl, ite2 (fun c3 => ?_) (fun c3 => ?_)⟩
        · have hge : (10 : Int) ^ (18 : Int).toNat ≤ ns[j] := of_decide_eq_true c3
          refine ⟨_, rfl, _, _, rfl, rfl, ⟨by decide, by decide, by decide⟩, _, _, rfl, rfl, _, rfl, b, _, rfl, DPut.k (k := Sum.inr "digits") B2.h small5, ?_⟩
          exact q2 _ _ _ _ _ (B2.dg (ns[j] - 10 ^ (18 : Int).toNat)) (by omega) (by omega) h3 h4
        · refine ⟨_, rfl, b, _, rfl, B2.gf, _, _, rfl, rfl, .inl ⟨by omega, by omega⟩, _, rfl, _, _, rfl, rfl, .inl ⟨_, rfl, _, _, rfl, rfl, (by show (0 : Int) < 2147483587; decide), ?_⟩⟩
          refine ⟨_, rfl, b, _, rfl, DPut.k (k := Sum.inr "fold") B2.h small5, ?_⟩
          exact q2 _ _ _ _ _ (B2.fo _) (by omega) h2 (Int.emod_nonneg _ (by decide)) (Int.emod_lt_of_pos _ (by decide))
      · exact q2 _ _ _ _ _ B1 h1 h2 h3 h4
    · refine iteF ?_
      exact q2 _ _ _ _ _ B1 h1 h2 h3 h4
end
end K40

namespace K40
open PySem PySem.Spec PyProof.Rows L2
theorem sq_new {K : PySem.W.Frag} {H : Hp} {a p : Addr} {xs : List V} {o : HO} (h : SqL K H a xs) (hp : H p = none) : SqL K (upd H p o) a xs := (same_upd hp).seq h
section
variable {P : Program} {w : World} {K : PySem.W.Frag} {mg : Str → Option Value} {base : Heap}
theorem scB : FnScope ["script", "fold", "cell"] ["script"] (defScope sBag) := ⟨rfl, rfl, rfl, by decide +kernel, rfl, by decide +kernel, by decide +kernel⟩
theorem ok_bag {f : Addr} {fd : FuncData} (F : Fun K "_law_bag" "_law_bag" sBag f fd) (T : BTxt mg) : FnOk P w K mg base CX0 1 f fd ["script"] (spBag K) := by
  refine F.ok scB (fun vs H Q E h => ?_) (fun cdv A outer s H vs Q E hr h => ?_)
  · obtain ⟨a, ns, rfl, _⟩ := h
    rfl
  · obtain ⟨a, ns, rfl, hS, hns, k⟩ := h
    have hu := hu_of hr
    refine ⟨_, pss_cons (ps_set (i := 1) scB.nd rfl (Or.inl rfl) pe_int)
      (pss_cons (ps_for PassesOwn.never rfl (pi_list (pv 0)) (pg_name (i := 2) scB.nd rfl (Or.inl rfl))
        (pss_one (ps_set (i := 1) scB.nd rfl (Or.inl rfl) (pe_op op_mod (pe_callTy call_int1 (by rfl) T.int (by decide +kernel) (pa_cons (pe_op op_add (pe_op op_mul (pv 1) pe_int) (pv 2)) pa_nil)) pe_int))))
      (pss_one (ps_ret (pe_disp (pps_cons pe_str (pe_callTy call_list_of (by rfl) T.list (by decide +kernel) (pa_cons (pv 0) pa_nil)) (pps_cons pe_str pe_int (pps_cons pe_str pe_int (pps_cons pe_str pe_int (pps_cons pe_str (pv 1) pps_nil))))) (by rfl) (by rfl) (fun z => by cases z) (by decide))))), ?_⟩
    refine ⟨_, rfl, a, rfl, ⟨_, hS⟩, for_list (K := K) (a := a) (xs := ns.map V.int) (fun i σ H' => ∃ (fo : Int) (v : Option V), σ = [some (.ref a), some (.int fo), v] ∧ H' = H ∧ 0 ≤ fo ∧ fo < 1000000009)
      ⟨0, none, rfl, rfl, by decide, by decide⟩ (fun i σ H' _ ⟨_, _, _, e, _⟩ => by rw [e]; exact hS) ?_ ?_⟩
    · rintro i y σ H' hi ⟨fo, v, rfl, rfl, h1, h2⟩
      obtain ⟨z, rfl⟩ : ∃ z, y = V.int z := by
        rw [List.getElem?_map] at hi
        cases e : ns[i]? with
        | none => rw [e] at hi; cases hi
        | some z => rw [e] at hi; exact ⟨z, (Option.some.inj hi).symm⟩
      refine ⟨_, rfl, _, _, rfl, rfl, .inl ⟨by omega, by omega⟩, _, rfl, _, _, rfl, rfl, .inl ⟨_, rfl, _, _, rfl, rfl, (by show (0 : Int) < 1000000009; decide), ?_⟩⟩
      exact ⟨_, _, rfl, rfl, Int.emod_nonneg _ (by decide), Int.emod_lt_of_pos _ (by decide)⟩
    · rintro σ H' ⟨fo, v, rfl, rfl, h1, h2⟩
      intro p hp
      refine ⟨_, rfl, a, _, rfl, .inl (sq_new hS hp), fun l hl => ⟨_, rfl, ?_⟩⟩
      have lp : l ≠ p := fun z => by rw [z, upd_same] at hl; cases hl
      refine ⟨by rw [upd_ne lp.symm, upd_same], bagK l 0 0 0 fo, rfl, (by show 5 ≤ 15; decide), ?_⟩
      rw [bag_mk]
      refine k p l _ hp ⟨0, 0, fo, upd_same, ?_, by decide, by decide, h1, by omega⟩ ?_
      · rw [upd_ne lp, upd_same]
      · intro q o hq
        rw [upd_ne (ne_of_none hq hp), upd_ne (ne_of_none (by rw [upd_ne (ne_of_none hq hp)]; exact hq) hl), upd_ne (ne_of_none hq hp)]
        exact hq

end
end K40

namespace L2
open PySem PySem.Spec PyProof.Rows
section
variable {X : Cx}
/-- t != u, two tuples of the same items -/
def rNeS (K : PySem.W.Frag) (r : Bool) : R2 := fun x y H Q => ∃ (a b : Addr) (xs : List V), x = .ref a ∧ y = .ref b ∧ SqT K H a xs ∧ SqT K H b xs ∧ (∀ v ∈ xs, flatB v = true ∨ ∃ c, v = .ref c) ∧ Q (.bl r) H
theorem same_items {P : Program} {w : World} {A : Around} {s : Shared} : ∀ {xs : List V} {us ws : List Value}, (∀ v ∈ xs, flatB v = true ∨ ∃ c, v = .ref c) → Vals xs us → Vals xs ws → ∀ j (h1 : j < us.length) (h2 : j < ws.length), SeqAt.EqAt A s us[j] ws[j] true
  | _, _, _, _, .nil, _, _, h1, _ => absurd h1 (Nat.not_lt_zero _)
  | x :: xs, _, _, hv, .cons a1 b1, .cons a2 b2, j, h1, h2 => by
    cases j with
    | zero =>
      rcases hv x List.mem_cons_self with f | ⟨c, rfl⟩
      · exact eqAt_same a1 a2 f
      · cases (show _ = Value.ref c from a1)
        cases (show _ = Value.ref c from a2)
        exact SeqAt.EqAt.same _
    | succ j => exact same_items (P := P) (w := w) (fun v hm => hv v (List.mem_cons_of_mem _ hm)) b1 b2 j (Nat.lt_of_succ_lt_succ h1) (Nat.lt_of_succ_lt_succ h2)
theorem op_neS (hu : X.A.units < cLine) : OpR X (compareOp .NotEq) (rNeS X.K false) := by
  intro pins s σ H x y v u Q I rx ry h
  obtain ⟨a, b, xs, rfl, rfl, ha, hb, hv, q⟩ := h
  cases (show v = Value.ref a from rx)
  cases (show u = Value.ref b from ry)
  obtain ⟨us, r1, p1, _⟩ := I.tuple ha
  obtain ⟨ws, r2, p2, _⟩ := I.tuple hb
  have hl : us.length = ws.length := by rw [← r1.length, ← r2.length]
  refine SeqAt.RcNeAt.tuples (e := fun _ => true) p1 p2 hu (fun j h1 h2 => ?_) X.prog X.w _ _ ?_
  · have k := same_items (P := X.prog) (w := X.w) (A := X.A.in1) (s := s) hv r1 r2 j (by simpa using h1) (by simpa using h2)
    simpa using k
  · rw [show (!((List.range (min us.toArray.size ws.toArray.size)).all (fun _ => true) && us.toArray.size == ws.toArray.size)) = false by
      rw [List.size_toArray, List.size_toArray, hl]; simp]
    exact ⟨.bl false, H, I, rfl, q⟩
theorem op_eqS (hu : X.A.units < cLine) : OpR X (compareOp .Eq) (rNeS X.K true) := by
  intro pins s σ H x y v u Q I rx ry h
  obtain ⟨a, b, xs, rfl, rfl, ha, hb, hv, q⟩ := h
  cases (show v = Value.ref a from rx)
  cases (show u = Value.ref b from ry)
  obtain ⟨us, r1, p1, _⟩ := I.tuple ha
  obtain ⟨ws, r2, p2, _⟩ := I.tuple hb
  have hl : us.length = ws.length := by rw [← r1.length, ← r2.length]
  refine SeqAt.RcAt.tuples (e := fun _ => true) p1 p2 hu (fun j h1 h2 => ?_) X.prog X.w _ _ ?_
  · have k := same_items (P := X.prog) (w := X.w) (A := X.A.in1) (s := s) hv r1 r2 j (by simpa using h1) (by simpa using h2)
    simpa using k
  · rw [show (((List.range (min us.toArray.size ws.toArray.size)).all (fun _ => true) && us.toArray.size == ws.toArray.size)) = true by
      rw [List.size_toArray, List.size_toArray, hl]; simp]
    exact ⟨.bl true, H, I, rfl, q⟩
end
end L2

namespace Rg
open PySem
theorem itemD_isT {d : D} (h : itemD d = true) : isT d = true := by
  unfold itemD at h
  split at h
  · rfl
  · cases h
def Clean (ds : List D) : Prop := ∀ d ∈ ds, emp d = true ∨ itemD d = true
theorem row_mem {ds : List D} (hm : 0 < ds.length) (i : Int) : row ds i ∈ ds := by
  have h1 := Int.emod_lt_of_pos i (show (0 : Int) < ds.length by omega)
  have h2 := Int.emod_nonneg i (show (ds.length : Int) ≠ 0 by omega)
  have h3 : (i % (ds.length : Int)).toNat < ds.length := by omega
  unfold row
  rw [List.getD_eq_getElem?_getD, List.getElem?_eq_getElem h3]
  exact List.getElem_mem h3
theorem Clean.isT {ds : List D} (c : Clean ds) (hm : 0 < ds.length) {i : Int} (h : ¬ E ds i) : itemD (row ds i) = true := (c _ (row_mem hm i)).resolve_left h
theorem row_set {ds : List D} {i : Nat} (hi : i < ds.length) (c : D) (p : Int) : row (ds.set i c) p = if p % (ds.length : Int) = i then c else row ds p := by
  have h1 := Int.emod_lt_of_pos p (show (0 : Int) < ds.length by omega)
  have h2 := Int.emod_nonneg p (show (ds.length : Int) ≠ 0 by omega)
  unfold row
  rw [List.length_set, List.getD_eq_getElem?_getD, List.getElem?_set]
  by_cases h : p % (ds.length : Int) = i
  · rw [if_pos h, if_pos (by omega), if_pos hi]; rfl
  · rw [if_neg h, if_neg (by omega), List.getD_eq_getElem?_getD]
/-- how far c would be from its home in the row p -/
def dst (m : Nat) (c : D) (p : Int) : Int := (p - hashD c) % m
theorem gap_dst (ds : List D) (r : Int) : gap ds r = dst ds.length (row ds r) r := rfl
/-- c is to be put into ds, from the row p on -/
structure Carry (ds : List D) (c : D) (p : Int) : Prop where
  it : itemD c = true
  cl : Clean ds
  R : Reached ds
  O : InOrder ds
  op : Open_ ds
  pos : 0 < ds.length
  wk : ∀ j : Nat, 1 ≤ j → (j : Int) ≤ dst ds.length c p → ¬ E ds (p - j)
  od : 1 ≤ dst ds.length c p → dst ds.length c p ≤ gap ds (p - 1) + 1
section
variable {ds : List D} {c : D} {p : Int}
theorem dst_nn (x : Carry ds c p) : 0 ≤ dst ds.length c p := Int.emod_nonneg _ (by have := x.pos; omega)
theorem dst_lt (x : Carry ds c p) : dst ds.length c p < ds.length := Int.emod_lt_of_pos _ (by have := x.pos; omega)
theorem ix_ok (hm : 0 < ds.length) (p : Int) : ((p % (ds.length : Int)).toNat : Int) = p % ds.length ∧ (p % (ds.length : Int)).toNat < ds.length := by
  have h1 := Int.emod_lt_of_pos p (show (0 : Int) < ds.length by omega)
  have h2 := Int.emod_nonneg p (show (ds.length : Int) ≠ 0 by omega)
  omega
/-- an empty row lies behind all that was walked -/
theorem room_of (x : Carry ds c p) (hp : ¬ E ds p) : dst ds.length c p + 1 < ds.length := by
  have h0 := dst_nn x
  obtain ⟨n, hn, hl⟩ := back_ex x.pos x.op (p + 1)
  obtain ⟨n0, h1, e0⟩ := open_fwd x.pos x.op (p - dst ds.length c p)
  -- the next empty row from the home on lies behind p
  refine Int.not_le.mp fun z => ?_
  have hd : dst ds.length c p = ds.length - 1 := by have := dst_lt x; omega
  have : (n0 : Int) ≤ dst ds.length c p := by omega
  by_cases e : (n0 : Int) = dst ds.length c p
  · rw [e, show p - dst ds.length c p + dst ds.length c p = p by omega] at e0
    exact hp e0
  · refine x.wk (dst ds.length c p - n0).toNat (by omega) (by omega) ?_
    rw [show p - ((dst ds.length c p - n0).toNat : Int) = p - dst ds.length c p + n0 by omega]
    exact e0
theorem emod_succ {a m : Int} (hm : 0 < m) (h : a % m + 1 < m) : (a + 1) % m = a % m + 1 := by
  have h0 := Int.emod_nonneg a (show m ≠ 0 by omega)
  rw [Int.add_emod]
  by_cases e : m = 1
  · omega
  · rw [Int.emod_eq_of_lt (show (0 : Int) ≤ 1 by omega) (by omega), Int.emod_eq_of_lt (by omega) h]
theorem dst_succ (x : Carry ds c p) (h : dst ds.length c p + 1 < ds.length) : dst ds.length c (p + 1) = dst ds.length c p + 1 := by
  unfold dst at *
  rw [show p + 1 - hashD c = p - hashD c + 1 by omega]
  exact emod_succ (by have := x.pos; omega) h
theorem Carry.go (x : Carry ds c p) (hp : ¬ E ds p) (hg : ¬ gap ds p < dst ds.length c p) : Carry ds c (p + 1) := by
  have hr := room_of x hp
  have hs := dst_succ x hr
  refine ⟨x.it, x.cl, x.R, x.O, x.op, x.pos, fun j h1 h2 => ?_, fun _ => ?_⟩
  · rw [hs] at h2
    by_cases e : j = 1
    · rw [e, show p + 1 - ((1 : Nat) : Int) = p by omega]; exact hp
    · have := x.wk (j - 1) (by omega) (by omega)
      rw [show p + 1 - (j : Int) = p - ((j - 1 : Nat) : Int) by omega]; exact this
  · rw [hs, show p + 1 - 1 = p by omega]
    omega
/-- what a row holds does not hang on more than whether it holds something -/
theorem E_set (hm : 0 < ds.length) (hc : itemD c = true) (i : Int) : E (ds.set (p % (ds.length : Int)).toNat c) i ↔ E ds i ∧ i % (ds.length : Int) ≠ p % ds.length := by
  obtain ⟨h1, h2⟩ := ix_ok hm p
  unfold E
  rw [row_set h2, h1]
  by_cases e : i % (ds.length : Int) = p % ds.length
  · rw [if_pos e, isT_emp (itemD_isT hc)]
    exact ⟨fun z => absurd z Bool.false_ne_true, fun z => absurd e z.2⟩
  · rw [if_neg e]
    exact ⟨fun z => ⟨z, e⟩, fun z => z.1⟩
theorem gap_set (hm : 0 < ds.length) (i : Int) : gap (ds.set (p % (ds.length : Int)).toNat c) i = if i % (ds.length : Int) = p % ds.length then dst ds.length c i else gap ds i := by
  obtain ⟨h1, h2⟩ := ix_ok hm p
  unfold gap
  rw [row_set h2, h1, List.length_set]
  by_cases e : i % (ds.length : Int) = p % ds.length
  · rw [if_pos e, if_pos e]; rfl
  · rw [if_neg e, if_neg e]
theorem dst_congr {m : Nat} {a b : Int} (h : a % m = b % m) : dst m c a = dst m c b := by
  unfold dst
  rw [Int.sub_emod, h, ← Int.sub_emod]
theorem clean_set (x : Carry ds c p) (i : Nat) : Clean (ds.set i c) := fun d hd => by
  rcases List.mem_or_eq_of_mem_set hd with e | e
  · exact x.cl d e
  · rw [e]; exact .inr x.it
theorem Carry.reached (x : Carry ds c p) : Reached (ds.set (p % (ds.length : Int)).toNat c) := by
  intro r ht j hj
  rw [E_set x.pos x.it]
  rintro ⟨h1, h2⟩
  rw [gap_set x.pos] at hj
  obtain ⟨i1, i2⟩ := ix_ok x.pos p
  rw [row_set i2, i1] at ht
  by_cases e : r % (ds.length : Int) = p % ds.length
  · rw [if_pos e, dst_congr e] at hj
    have e2 : (r - j) % (ds.length : Int) = (p - j) % ds.length := by rw [Int.sub_emod, e, ← Int.sub_emod]
    cases j with
    | zero => exact h2 (by rw [show r - ((0 : Nat) : Int) = r by omega]; exact e)
    | succ j => exact x.wk (j + 1) (by omega) hj ((E_congr e2).mp h1)
  · rw [if_neg e] at hj ht
    exact x.R r ht j hj h1
theorem Carry.order (x : Carry ds c p) (h : ∀ r : Int, r % (ds.length : Int) = p % ds.length → (r + 1) % (ds.length : Int) ≠ p % ds.length → isT (row ds (r + 1)) = true → gap ds (r + 1) ≤ dst ds.length c p + 1) : InOrder (ds.set (p % (ds.length : Int)).toNat c) := by
  intro r h1 h2
  obtain ⟨i1, i2⟩ := ix_ok x.pos p
  rw [gap_set x.pos, gap_set x.pos]
  rw [row_set i2, i1] at h1 h2
  have d0 := dst_nn x
  by_cases e1 : (r + 1) % (ds.length : Int) = p % ds.length
  · rw [if_pos e1, dst_congr e1]
    by_cases e2 : r % (ds.length : Int) = p % ds.length
    · rw [if_pos e2, dst_congr e2]; omega
    · rw [if_neg e2]
      have e3 : r % (ds.length : Int) = (p - 1) % ds.length := by
        rw [show r = (r + 1) - 1 by omega, Int.sub_emod, e1, ← Int.sub_emod]
      have := gap_nn x.pos r
      by_cases z : 1 ≤ dst ds.length c p
      · have := x.od z
        rw [gap_congr e3]; omega
      · omega
  · rw [if_neg e1]
    rw [if_neg e1] at h2
    by_cases e2 : r % (ds.length : Int) = p % ds.length
    · rw [if_pos e2, dst_congr e2]
      exact h r e2 e1 h2
    · rw [if_neg e2] at h1 ⊢
      exact x.O r h1 h2
theorem succ_congr {a b : Int} {m : Nat} (h : a % (m : Int) = b % m) : (a + 1) % (m : Int) = (b + 1) % m := by rw [Int.add_emod, h, ← Int.add_emod]
theorem Carry.swap (x : Carry ds c p) (hp : ¬ E ds p) (hg : gap ds p < dst ds.length c p) : Carry (ds.set (p % (ds.length : Int)).toNat c) (row ds p) (p + 1) := by
  obtain ⟨i1, i2⟩ := ix_ok x.pos p
  have hit := x.cl.isT x.pos hp
  have hl : (ds.set (p % (ds.length : Int)).toNat c).length = ds.length := List.length_set
  have g0 := gap_nn x.pos p
  have hd : dst ds.length (row ds p) (p + 1) = gap ds p + 1 := by
    have := dst_lt x
    rw [gap_dst] at *
    unfold dst at *
    rw [show p + 1 - hashD (row ds p) = p - hashD (row ds p) + 1 by omega]
    exact emod_succ (by have := x.pos; omega) (by omega)
  refine ⟨hit, clean_set x _, x.reached, x.order fun r e1 e2 ht => ?_, ?_, by rw [hl]; exact x.pos, fun j h1 h2 => ?_, fun _ => ?_⟩
  · have e3 := succ_congr e1
    have := x.O p (itemD_isT hit) (by rw [← row_congr e3]; exact ht)
    rw [gap_congr e3]
    omega
  · obtain ⟨i, hi⟩ := x.op
    exact ⟨i, (E_set x.pos x.it i).mpr ⟨hi, fun e => hp ((E_congr e).mp hi)⟩⟩
  · rw [hl, hd] at h2
    rw [E_set x.pos x.it]
    rintro ⟨z, z2⟩
    have := x.R p (itemD_isT hit) (j - 1) (by omega)
    rw [show p + 1 - (j : Int) = p - ((j - 1 : Nat) : Int) by omega] at z
    exact this z
  · rw [hl, hd, gap_set x.pos, if_pos (by rw [show p + 1 - 1 = p by omega]), show p + 1 - 1 = p by omega]
    omega
theorem Carry.done (x : Carry ds c p) (hp : E ds p) : Clean (ds.set (p % (ds.length : Int)).toNat c) ∧ Reached (ds.set (p % (ds.length : Int)).toNat c) ∧ InOrder (ds.set (p % (ds.length : Int)).toNat c) := by
  refine ⟨clean_set x _, x.reached, x.order fun r e1 e2 ht => ?_⟩
  have d0 := dst_nn x
  by_cases z : gap ds (r + 1) ≤ 0
  · omega
  · exfalso
    refine x.R (r + 1) ht 1 (by omega) ?_
    rw [show r + 1 - ((1 : Nat) : Int) = r by omega]
    exact (E_congr e1).mpr hp
end
theorem perm_swap : ∀ (l : List D) (i : Nat) (x c : D), l[i]? = some x → isT x = true → isT c = true → (x :: (l.set i c).filter isT).Perm (c :: l.filter isT)
  | [], _, _, _, h, _, _ => by simp at h
  | y :: l, 0, x, c, h, hx, hc => by
    have e : y = x := by simpa using h
    subst e
    rw [List.set_cons_zero, List.filter_cons_of_pos hc, List.filter_cons_of_pos hx]
    exact .swap _ _ _
  | y :: l, i + 1, x, c, h, hx, hc => by
    have ih := perm_swap l i x c (by simpa using h) hx hc
    rw [List.set_cons_succ]
    cases hy : isT y with
    | true =>
      rw [List.filter_cons_of_pos hy, List.filter_cons_of_pos hy]
      exact (List.Perm.swap y x _).trans ((ih.cons y).trans (.swap _ _ _))
    | false =>
      rw [List.filter_cons_of_neg (by rw [hy]; decide), List.filter_cons_of_neg (by rw [hy]; decide)]
      exact ih
theorem perm_fill : ∀ (l : List D) (i : Nat) (x c : D), l[i]? = some x → isT x = false → isT c = true → ((l.set i c).filter isT).Perm (c :: l.filter isT)
  | [], _, _, _, h, _, _ => by simp at h
  | y :: l, 0, x, c, h, hx, hc => by
    have e : y = x := by simpa using h
    subst e
    rw [List.set_cons_zero, List.filter_cons_of_pos hc, List.filter_cons_of_neg (by rw [hx]; decide)]
  | y :: l, i + 1, x, c, h, hx, hc => by
    have ih := perm_fill l i x c (by simpa using h) hx hc
    rw [List.set_cons_succ]
    cases hy : isT y with
    | true =>
      rw [List.filter_cons_of_pos hy, List.filter_cons_of_pos hy]
      exact (ih.cons y).trans (.swap _ _ _)
    | false =>
      rw [List.filter_cons_of_neg (by rw [hy]; decide), List.filter_cons_of_neg (by rw [hy]; decide)]
      exact ih
theorem open_of {ds : List D} (cl : Clean ds) (h : (ds.filter isT).length < ds.length) : Open_ ds := by
  by_cases c : ∃ d ∈ ds, emp d = true
  · obtain ⟨d, hd, he⟩ := c
    obtain ⟨i, hi, e⟩ := List.getElem_of_mem hd
    refine ⟨(i : Int), ?_⟩
    unfold E
    rw [row_nat hi, e]
    exact he
  · exfalso
    have : ds.filter isT = ds := List.filter_eq_self.mpr fun d hd => itemD_isT ((cl d hd).resolve_left fun z => c ⟨d, hd, z⟩)
    rw [this] at h
    exact Nat.lt_irrefl _ h
end Rg

namespace L2
open PySem PySem.Spec PyProof.Rows
end L2
namespace K40
open PySem PySem.Spec PyProof.Rows L2 Rg
section
variable {K : PySem.W.Frag} {H : Hp} {v : V} {d : D}
end
abbrev sWhole : Stmt := s_is_whole
abbrev sPair : Stmt := s_is_pair
abbrev sItem : Stmt := s_is_item
abbrev sRow : Stmt := s_is_row
abbrev sKeys : Stmt := s_keys_differ
abbrev sItems : Stmt := s_items_of
abbrev sRing : Stmt := s_is_ring
structure GT (mg : Str → Option Value) : Prop where
  isi : mg "isinstance" = none
  int : mg "int" = none
  bool : mg "bool" = none
  str : mg "str" = none
  tup : mg "tuple" = none
  lst : mg "list" = none
  len : mg "len" = none
  set : mg "set" = none
  all : mg "all" = none
  any : mg "any" = none
  range : mg "range" = none
section
variable {P : Program} {w : World} {K : PySem.W.Frag} {mg : Str → Option Value} {base : Heap}
theorem scWhole : FnScope ["value"] ["value"] (defScope sWhole) := ⟨rfl, rfl, rfl, by decide +kernel, rfl, by decide +kernel, by decide +kernel⟩
theorem ok_whole (R : Raw K mg "is_whole" sWhole ["value"]) (T : GT mg) : Def P w K mg base CX0 "is_whole" 1 ["value"] (spB K wholeD) := by
  refine R.def fun f fd F => ?_
  refine F.ok scWhole (fun vs H Q E h => ?_) (fun cdv A outer s H vs Q E hr h => ?_)
  · obtain ⟨v, d, rfl, _⟩ := h
    rfl
  · obtain ⟨v, d, rfl, hd, k⟩ := h
    refine ⟨_, pss_one (ps_ret (pe_and (pe_callB call_isi (by rfl) T.isi (by decide +kernel) (pa_cons (pv 0) (pa_cons (pe_bltn (v := .ty "int") (by rfl) T.int (by decide +kernel) rfl) pa_nil)))
      (pe_one (pe_not (pe_callB call_isi (by rfl) T.isi (by decide +kernel) (pa_cons (pv 0) (pa_cons (pe_bltn (v := .ty "bool") (by rfl) T.bool (by decide +kernel) rfl) pa_nil))))))), ?_⟩
    obtain ⟨b1, b2, e1, e2, e3⟩ : ∃ b1 b2, kitB (tyD d) "int" = some b1 ∧ kitB (tyD d) "bool" = some b2 ∧ wholeD d = (b1 && !b2) := ⟨_, _, kit_int hd, kit_bool hd, by cases d <;> rfl⟩
    have z := k H (Same.refl _)
    rw [e3] at z
    refine ⟨_, rfl, v, _, _, _, b1, rfl, .ty _, dp_ty hd, kit_ty e1, b1, rfl, ?_⟩
    cases b1 with
    | true => exact iteT ⟨_, rfl, v, _, _, _, b2, rfl, .ty _, dp_ty hd, kit_ty e2, b2, rfl, z⟩
    | false => exact iteF z
theorem pair_len {ds : List D} (h : ds.length ≠ 2) : Rg.prD (.tuple ds) = false := by
  match ds, h with
  | [], _ => rfl
  | [_], _ => simp [Rg.prD]
  | [_, _], h => exact absurd rfl h
  | _ :: _ :: _ :: _, _ => simp [Rg.prD]
theorem item_len {ds : List D} (h : ds.length ≠ 3) : itemD (.tuple ds) = false := by
  match ds, h with
  | [], _ => rfl
  | [_], _ => simp [itemD]
  | [_, _], _ => simp [itemD]
  | [_, _, _], h => exact absurd rfl h
  | _ :: _ :: _ :: _ :: _, _ => simp [itemD]
theorem pair_eq (x y : D) : Rg.prD (.tuple [x, y]) = (wholeD x && (wholeD y && match y with | .int h => decide (0 ≤ h) | _ => false)) := by
  cases x <;> cases y <;> simp [Rg.prD, wholeD]
theorem item_eq (x y z : D) : itemD (.tuple [x, y, z]) = (Rg.prD (.tuple [x, y]) && wholeD z) := by
  cases x <;> cases y <;> cases z <;> simp [Rg.prD, wholeD, itemD]
theorem whole_int {K : PySem.W.Frag} {H : Hp} {v : V} {d : D} (h : Dp K H v d) (w : wholeD d = true) : ∃ i, v = .int i ∧ d = .int i := by
  cases h <;> first | exact ⟨_, rfl, rfl⟩ | cases w
theorem scPair : FnScope ["value"] ["value"] (defScope sPair) := ⟨rfl, rfl, rfl, by decide +kernel, rfl, by decide +kernel, by decide +kernel⟩
theorem ok_pair (R : Raw K mg "is_pair" sPair ["value"]) (T : GT mg) (DW : Def P w K mg base CX0 "is_whole" 1 ["value"] (spB K wholeD)) : Def P w K mg base CX0 "is_pair" 2 ["value"] (spB K Rg.prD) := by
  obtain ⟨fW, dW, GW, gW, kW, bW⟩ := DW
  refine R.def fun f fd F => F.ok scPair (fun vs H Q E h => ?_) (fun cdv A outer s H vs Q E hr h => ?_)
  · obtain ⟨v, d, rfl, _⟩ := h
    rfl
  · obtain ⟨v, d, rfl, hd, k⟩ := h
    refine ⟨_, pss_cons (ps_if (PW.pt (pw_or (pt_not (pt_val (pe_callB call_isi (by rfl) T.isi (by decide +kernel) (pa_cons (pv 0) (pa_cons (pe_bltn (v := .ty "tuple") (by rfl) T.tup (by decide +kernel) rfl) pa_nil)))))
        (pw_or1 (pt_cmpR op_ne (pe_callB call_len_seq (by rfl) T.len PySem.boot_len (pa_cons (pv 0) pa_nil)) pe_int (nomark _))))) (pss_one (ps_ret pe_bl)) pss_nil)
      (pss_one (ps_ret (pe_and (pe_call GW hr (by rfl) gW kW bW .nil pass0 (pa_cons (pe_ix ix_tup (pv 0) pe_int (fun _ _ => rfl)) pa_nil))
        (pe_and (pe_call GW hr (by rfl) gW kW bW .nil pass0 (pa_cons (pe_ix ix_tup (pv 0) pe_int (fun _ _ => rfl)) pa_nil)) (pe_one (pe_cmpR op_ge (pe_ix ix_tup (pv 0) pe_int (fun _ _ => rfl)) pe_int (nomark _))))))), ?_⟩
    refine ⟨_, rfl, v, _, _, _, isT d, rfl, .ty _, dp_ty hd, kit_ty (kit_tup hd), isT d, rfl, ?_⟩
    cases ht : isT d with
    | false =>
      refine iteT ?_
      have z := k H (Same.refl _)
      rw [show Rg.prD d = false by cases d <;> first | rfl | cases ht] at z
      exact iteT z
    | true =>
      obtain ⟨ds, rfl⟩ := isT_tup ht
      obtain ⟨a, vs, rfl, sq, dp⟩ := dp_tup hd
      refine iteF ?_
      refine ⟨_, rfl, a, vs, rfl, .inr sq, rfl, _, rfl, ?_⟩
      by_cases hl : vs.length = 2
      · have hl2 : ds.length = 2 := by rw [← dp.length]; exact hl
        obtain ⟨x, y, rfl⟩ := two hl2
        cases dp with
        | cons hx dp => cases dp with
          | cons hy dp => cases dp with
            | nil =>
              rename_i vx vy
              refine ifF (len_eq (n := 2) (m := 2) rfl) ?_
              refine ⟨_, rfl, a, _, 0, vx, rfl, rfl, sq, rfl, vx, x, rfl, hx, fun H1 s1 => ⟨_, rfl, ?_⟩⟩
              cases wx : wholeD x with
              | false =>
                have z := k H1 s1
                rw [pair_eq, wx, Bool.false_and] at z
                exact iteF z
              | true =>
                refine iteT ⟨_, rfl, a, _, 1, vy, rfl, rfl, s1.sqT sq, rfl, vy, y, rfl, hy.keep s1, fun H2 s2 => ⟨_, rfl, ?_⟩⟩
                have z := k H2 (s1.trans s2)
                rw [pair_eq, wx, Bool.true_and] at z
                cases wy : wholeD y with
                | false =>
                  rw [wy, Bool.false_and] at z
                  exact iteF z
                | true =>
                  obtain ⟨i, rfl, rfl⟩ := whole_int hy wy
                  exact iteT ⟨_, rfl, a, _, 1, .int i, rfl, rfl, s2.sqT (s1.sqT sq), rfl, _, _, rfl, rfl, z⟩
      · refine ifT (len_ne (m := 2) hl) ?_
        have z := k H (Same.refl _)
        rw [pair_len (by rw [← dp.length]; exact hl)] at z
        exact z
end
end K40

namespace K40
open PySem PySem.Spec PyProof.Rows L2 Rg
section
variable {P : Program} {w : World} {K : PySem.W.Frag} {mg : Str → Option Value} {base : Heap}
theorem scItem : FnScope ["value"] ["value"] (defScope sItem) := ⟨rfl, rfl, rfl, by decide +kernel, rfl, by decide +kernel, by decide +kernel⟩
theorem ok_item (R : Raw K mg "is_item" sItem ["value"]) (T : GT mg) (DW : Def P w K mg base CX0 "is_whole" 1 ["value"] (spB K wholeD)) (DP : Def P w K mg base CX0 "is_pair" 2 ["value"] (spB K Rg.prD)) : Def P w K mg base CX0 "is_item" 3 ["value"] (spB K itemD) := by
  obtain ⟨fW, dW, GW, gW, kW, bW⟩ := DW
  obtain ⟨fP, dP, GP, gP, kP, bP⟩ := DP
  refine R.def fun f fd F => F.ok scItem (fun vs H Q E h => ?_) (fun cdv A outer s H vs Q E hr h => ?_)
  · obtain ⟨v, d, rfl, _⟩ := h
    rfl
  · obtain ⟨v, d, rfl, hd, k⟩ := h
    have hr1 : Room 1 _ := hr.mono (by decide)
    refine ⟨_, pss_cons (ps_if (PW.pt (pw_or (pt_not (pt_val (pe_callB call_isi (by rfl) T.isi (by decide +kernel) (pa_cons (pv 0) (pa_cons (pe_bltn (v := .ty "tuple") (by rfl) T.tup (by decide +kernel) rfl) pa_nil)))))
        (pw_or1 (pt_cmpR op_ne (pe_callB call_len_seq (by rfl) T.len PySem.boot_len (pa_cons (pv 0) pa_nil)) pe_int (nomark _))))) (pss_one (ps_ret pe_bl)) pss_nil)
      (pss_one (ps_ret (pe_and (pe_call GP hr (by rfl) gP kP bP .nil pass0 (pa_cons (pe_slice sl_tup (pv 0) po_none (po_some pe_int)) pa_nil))
        (pe_one (pe_call GW hr1 (by rfl) gW kW bW .nil pass0 (pa_cons (pe_ix ix_tup (pv 0) pe_int (fun _ _ => rfl)) pa_nil)))))), ?_⟩
    refine ⟨_, rfl, v, _, _, _, isT d, rfl, .ty _, dp_ty hd, kit_ty (kit_tup hd), isT d, rfl, ?_⟩
    cases ht : isT d with
    | false =>
      refine iteT ?_
      have z := k H (Same.refl _)
      rw [show itemD d = false by cases d <;> first | rfl | cases ht] at z
      exact iteT z
    | true =>
      obtain ⟨ds, rfl⟩ := isT_tup ht
      obtain ⟨a, vs, rfl, sq, dp⟩ := dp_tup hd
      refine iteF ?_
      refine ⟨_, rfl, a, vs, rfl, .inr sq, rfl, _, rfl, ?_⟩
      by_cases hl : vs.length = 3
      · have hl2 : ds.length = 3 := by rw [← dp.length]; exact hl
        obtain ⟨x, y, c, rfl⟩ := three hl2
        cases dp with
        | cons hx dp => cases dp with
          | cons hy dp => cases dp with
            | cons hc dp => cases dp with
              | nil =>
                rename_i vx vy vc
                refine ifF (len_eq (n := 3) (m := 3) rfl) ?_
                refine ⟨_, rfl, 2, rfl, a, [vx, vy, vc], rfl, sq, (show ¬ (HT.sIx 3 0 none = 0 ∧ HT.sIx 3 3 (some 2) = 3) from by decide), fun p hp => ?_⟩
                have s0 := same_upd (o := .tup (cutV [vx, vy, vc] none (some 2))) hp
                refine ⟨.ref p, .tuple [x, y], rfl, .tup (SqT.of upd_same) (.cons (hx.keep s0) (.cons (hy.keep s0) .nil)), fun H1 s1 => ⟨_, rfl, ?_⟩⟩
                have s01 := s0.trans s1
                cases wx : Rg.prD (.tuple [x, y]) with
                | false =>
                  have z := k H1 s01
                  rw [item_eq, wx, Bool.false_and] at z
                  exact iteF z
                | true =>
                  refine iteT ⟨_, rfl, a, _, 2, vc, rfl, rfl, s01.sqT sq, rfl, vc, c, rfl, hc.keep s01, fun H2 s2 => ?_⟩
                  have z := k H2 (s01.trans s2)
                  rw [item_eq, wx, Bool.true_and] at z
                  exact z
      · refine ifT (len_ne (m := 3) hl) ?_
        have z := k H (Same.refl _)
        rw [item_len (by rw [← dp.length]; exact hl)] at z
        exact z
theorem scRow : FnScope ["value"] ["value"] (defScope sRow) := ⟨rfl, rfl, rfl, by decide +kernel, rfl, by decide +kernel, by decide +kernel⟩
theorem ok_row (R : Raw K mg "is_row" sRow ["value"]) (T : GT mg) (hS : ∃ t, mg "STONE" = some (.str "stone" t)) (DI : Def P w K mg base CX0 "is_item" 3 ["value"] (spB K itemD)) : Def P w K mg base CX0 "is_row" 4 ["value"] (spB K rowD) := by
  obtain ⟨fI, dI, GI, gI, kI, bI⟩ := DI
  obtain ⟨tS, gS⟩ := hS
  refine R.def fun f fd F => F.ok scRow (fun vs H Q E h => ?_) (fun cdv A outer s H vs Q E hr h => ?_)
  · obtain ⟨v, d, rfl, _⟩ := h
    rfl
  · obtain ⟨v, d, rfl, hd, k⟩ := h
    refine ⟨_, pss_one (ps_ret (pe_or (pe_cmpR op_isN (pv 0) pe_non (nomark _)) (pe_or (pe_and (pe_callB call_isi (by rfl) T.isi (by decide +kernel) (pa_cons (pv 0) (pa_cons (pe_bltn (v := .ty "str") (by rfl) T.str (by decide +kernel) rfl) pa_nil)))
        (pe_one (pe_cmpR op_eq (pv 0) (pe_glob (v := .str "stone") (by rfl) gS ⟨_, rfl⟩) (nomark _)))) (pe_one (pe_call GI hr (by rfl) gI kI bI .nil pass0 (pa_cons (pv 0) pa_nil)))))), ?_⟩
    have z := k H (Same.refl _)
    refine ⟨_, rfl, rfl, _, rfl, ?_⟩
    have items : itemD d = rowD d → _ := fun e => (fun H' s' => by have z := k H' s'; rw [← e] at z; exact z : ∀ H', Same H H' → Q (.bl (itemD d)) H')
    cases hd with
    | non => exact iteT z
    | bl b => exact iteF ⟨_, rfl, _, _, _, _, isS (.bool b), rfl, .ty _, dp_ty (.bl b), kit_ty (kit_str (K := K) (H := H) (.bl b)), _, rfl, iteF ⟨_, rfl, iteF ⟨_, rfl, _, _, rfl, .bl b, items rfl⟩⟩⟩
    | int i => exact iteF ⟨_, rfl, _, _, _, _, isS (.int i), rfl, .ty _, dp_ty (.int i), kit_ty (kit_str (K := K) (H := H) (.int i)), _, rfl, iteF ⟨_, rfl, iteF ⟨_, rfl, _, _, rfl, .int i, items rfl⟩⟩⟩
    | lst q r => exact iteF ⟨_, rfl, _, _, _, _, false, rfl, .ty _, dp_ty (.lst q r), kit_ty (kit_str (K := K) (H := H) (.lst q r)), _, rfl, iteF ⟨_, rfl, iteF ⟨_, rfl, _, _, rfl, .lst q r, items rfl⟩⟩⟩
    | tup q r => exact iteF ⟨_, rfl, _, _, _, _, false, rfl, .ty _, dp_ty (.tup q r), kit_ty (kit_str (K := K) (H := H) (.tup q r)), _, rfl, iteF ⟨_, rfl, iteF ⟨_, rfl, _, _, rfl, .tup q r, items rfl⟩⟩⟩
    | str x =>
      refine iteF ⟨_, rfl, _, _, _, _, true, rfl, .ty _, dp_ty (.str x), kit_ty (kit_str (K := K) (H := H) (.str x)), _, rfl, iteT ⟨_, rfl, rfl, _, rfl, ?_⟩⟩
      by_cases e : x = "stone"
      · refine ifT (by rw [e]; exact decide_eq_true rfl) ?_
        rw [show rowD (.str x) = true by rw [e]; decide +kernel] at z
        exact z
      · refine ifF (decide_eq_false fun h => e (V.str.inj h)) ?_
        have e2 : (x == ("stone" : Str)) = false := by simpa using e
        refine ⟨_, rfl, _, _, rfl, .str x, items ?_⟩
        show false = (false || (x == ("stone" : Str)) || false)
        rw [e2]; rfl
def spKeys (K : PySem.W.Frag) : Sp := fun vs H Q _ => ∃ (a : Addr) (xs : List V) (ds : List D), vs = [.ref a] ∧ SqX K H a xs ∧ DpAll K H xs ds ∧ (∀ d ∈ ds, itemD d = true) ∧ ds.length ≤ 1000 ∧ ∀ H', Same H H' → Q (.bl (keysDiffer ds)) H'
theorem item_parts {d : D} (h : itemD d = true) : ∃ k x m, d = .tuple [.int k, .int x, .int m] ∧ 0 ≤ x := by
  unfold itemD at h
  split at h
  · rename_i k x m
    exact ⟨k, x, m, rfl, of_decide_eq_true h⟩
  · cases h
theorem dp_item {K : PySem.W.Frag} {H : Hp} {v : V} {k x m : Int} (h : Dp K H v (.tuple [.int k, .int x, .int m])) : ∃ a, v = .ref a ∧ SqT K H a [.int k, .int x, .int m] := by
  obtain ⟨a, vs, rfl, q, r⟩ := dp_tup h
  cases r with
  | cons h1 r => cases r with
    | cons h2 r => cases r with
      | cons h3 r =>
        cases r; cases h1; cases h2; cases h3
        exact ⟨a, rfl, q⟩
theorem scKeys : FnScope ["items", "keys", "item"] ["items"] (defScope sKeys) := ⟨rfl, rfl, rfl, by decide +kernel, rfl, by decide +kernel, by decide +kernel⟩
theorem ok_keys (R : Raw K mg "keys_differ" sKeys ["items"]) (T : GT mg) : Def P w K mg base CX0 "keys_differ" 1 ["items"] (spKeys K) := by
  refine R.def fun f fd F => F.ok scKeys (fun vs H Q E h => ?_) (fun cdv A outer s H vs Q E hr h => ?_)
  · obtain ⟨a, xs, ds, rfl, _⟩ := h
    rfl
  · obtain ⟨a, xs, ds, rfl, sq, dp, hi, hl, k⟩ := h
    have fin : ∀ (H1 : Hp) (D : Addr), Same H H1 → H1 D = some (.lst ((ds.map keyD).map V.int)) → ∃ l ns, V.ref D = .ref l ∧ SqL K H1 l (ns.map V.int) ∧ ns.length ≤ 4000 ∧ (∃ p xs, V.ref D = .ref p ∧ (SqL K H1 p xs ∨ SqT K H1 p xs) ∧ scal (V.int ((FM ns).length : Nat)) (.int (xs.length : Nat)) = true ∧ Q (.bl (decide (V.int ((FM ns).length : Nat) = .int (xs.length : Nat)))) H1) := by
      intro H1 D s1 hD
      refine ⟨D, ds.map keyD, rfl, SqL.of hD, by rw [List.length_map]; omega, D, _, rfl, .inl (SqL.of hD), rfl, ?_⟩
      have z := k H1 s1
      have e : decide (V.int ((FM (ds.map keyD)).length : Nat) = .int (((ds.map keyD).map V.int).length : Nat)) = keysDiffer ds := by
        unfold keysDiffer
        refine decide_eq_decide.mpr ?_
        rw [List.length_map, ← fm_nodup]
        exact ⟨fun h => by have := V.int.inj h; omega, fun h => by rw [h]⟩
      rw [e]
      exact z
    have turn : ∀ (i : Nat) (x : V) (H1 : Hp) (D : Addr), xs[i]? = some x → Same H H1 → ∃ d a', ds[i]? = some d ∧ x = .ref a' ∧ SqT K H1 a' [.int (keyD d), .int (hashD d), .int (match d with | .tuple [_, _, .int m] => m | _ => 0)] := by
      intro i x H1 D hx s1
      have hlt : i < ds.length := by rw [← dp.length]; exact (List.getElem?_eq_some_iff.mp hx).1
      obtain ⟨v, h1, h2⟩ := dp.get (i := i) (List.getElem?_eq_getElem hlt)
      rw [hx] at h1
      cases h1
      obtain ⟨kk, hh, mm, e, _⟩ := item_parts (hi _ (List.getElem_mem hlt))
      rw [e] at h2
      obtain ⟨a', rfl, q⟩ := dp_item h2
      exact ⟨_, a', List.getElem?_eq_getElem hlt, rfl, by rw [e]; exact s1.sqT q⟩
    have more : ∀ (i : Nat) (d : D), ds[i]? = some d → ((ds.take (i + 1)).map keyD).map V.int = ((ds.take i).map keyD).map V.int ++ [.int (keyD d)] := fun i d h => by
      rw [List.take_add_one, h]
      simp
    rcases sq with sq | sq
    · refine ⟨_, pss_cons (ps_setLc (i := 1) (own := [("item", 2)]) (g := gName 2) (tt := tYes) rfl scKeys.nd rfl rfl (sw_true rfl rfl rfl (by decide +kernel)) (pi_list (pv 0)) (blkOk_by (own := [("item", 2)]) (N := ["items", "keys", "item"]) (sc := defScope sKeys) (by decide +kernel))
          (fun _ _ _ _ _ => pg_name (i := 2) scKeys.nd rfl (Or.inl rfl)) (fun _ _ _ _ _ => pts_nil) (fun _ _ _ _ _ => pe_ix (show IxR _ (rIxT K) from ix_tup) (pv 2) pe_int (fun _ _ => rfl)))
        (pss_one (ps_ret (pe_cmpR op_eq (pe_lenSetA (by rfl) T.len (by rfl) T.set (pv 1)) (pe_callB call_len_seq (by rfl) T.len PySem.boot_len (pa_cons (pv 1) pa_nil)) (nomark _)))), ?_⟩
      refine ⟨_, rfl, a, rfl, ⟨_, sq⟩, fun D hD => lc_list (K := K) (a := a) (xs := xs) (fun i H' => Same H H' ∧ H' D = some (.lst (((ds.take i).map keyD).map V.int))) ⟨same_upd hD, upd_same⟩ (fun i H' _ h => h.1.seq sq) ?_ ?_⟩
      · rintro i x H1 hx ⟨s1, h1⟩
        obtain ⟨d, a', hd, rfl, q⟩ := turn i x H1 D hx s1
        refine ⟨rfl, _, rfl, a', _, 0, _, rfl, rfl, q, rfl, _, h1, ?_, fun y o hy => ?_, ?_⟩
        · rw [List.length_map, List.length_map, List.length_take, sizeLine_eq]; omega
        · rw [upd_ne (ne_of_none hy hD)]; exact s1 y o hy
        · rw [upd_same, more i d hd]
      · rintro H1 ⟨s1, h1⟩
        rw [dp.length, List.take_length] at h1
        obtain ⟨l, ns, e1, e2, e3, p, ys, e4, e5, e6, e7⟩ := fin H1 D s1 h1
        exact ⟨_, rfl, l, ns, e1, e2, e3, _, rfl, p, ys, congrArg (fun z => [z]) e4, e5, e6, e7⟩
    · refine ⟨_, pss_cons (ps_setLc (i := 1) (own := [("item", 2)]) (g := gName 2) (tt := tYes) rfl scKeys.nd rfl rfl (sw_true rfl rfl rfl (by decide +kernel)) (pi_tup (pv 0)) (blkOk_by (own := [("item", 2)]) (N := ["items", "keys", "item"]) (sc := defScope sKeys) (by decide +kernel))
          (fun _ _ _ _ _ => pg_name (i := 2) scKeys.nd rfl (Or.inl rfl)) (fun _ _ _ _ _ => pts_nil) (fun _ _ _ _ _ => pe_ix (show IxR _ (rIxT K) from ix_tup) (pv 2) pe_int (fun _ _ => rfl)))
        (pss_one (ps_ret (pe_cmpR op_eq (pe_lenSetA (by rfl) T.len (by rfl) T.set (pv 1)) (pe_callB call_len_seq (by rfl) T.len PySem.boot_len (pa_cons (pv 1) pa_nil)) (nomark _)))), ?_⟩
      refine ⟨_, rfl, a, rfl, ⟨_, sq⟩, fun D hD => lc_tup (K := K) (a := a) (xs := xs) (fun i H' => Same H H' ∧ H' D = some (.lst (((ds.take i).map keyD).map V.int))) ⟨same_upd hD, upd_same⟩ (fun i H' _ h => h.1.sqT sq) ?_ ?_⟩
      · rintro i x H1 hx ⟨s1, h1⟩
        obtain ⟨d, a', hd, rfl, q⟩ := turn i x H1 D hx s1
        refine ⟨rfl, _, rfl, a', _, 0, _, rfl, rfl, q, rfl, _, h1, ?_, fun y o hy => ?_, ?_⟩
        · rw [List.length_map, List.length_map, List.length_take, sizeLine_eq]; omega
        · rw [upd_ne (ne_of_none hy hD)]; exact s1 y o hy
        · rw [upd_same, more i d hd]
      · rintro H1 ⟨s1, h1⟩
        rw [dp.length, List.take_length] at h1
        obtain ⟨l, ns, e1, e2, e3, p, ys, e4, e5, e6, e7⟩ := fin H1 D s1 h1
        exact ⟨_, rfl, l, ns, e1, e2, e3, _, rfl, p, ys, congrArg (fun z => [z]) e4, e5, e6, e7⟩
end
end K40

namespace K40
open PySem PySem.Spec PyProof.Rows L2 Rg
section
variable {P : Program} {w : World} {K : PySem.W.Frag} {mg : Str → Option Value} {base : Heap}
def spItems (K : PySem.W.Frag) : Sp := fun vs H Q _ => ∃ (a : Addr) (xs : List V) (ds : List D), vs = [.ref a] ∧ SqT K H a xs ∧ DpAll K H xs ds ∧ ds.length ≤ 1000 ∧
  ∀ (p : Addr) (ys : List V) (H' : Hp), H p = none → H' p = some (.lst ys) → DpAll K H' ys (ds.filter isT) → Same H H' → Q (.ref p) H'
theorem scItems : FnScope ["rows", "row"] ["rows"] (defScope sItems) := ⟨rfl, rfl, rfl, by decide +kernel, rfl, by decide +kernel, by decide +kernel⟩
theorem ok_items (R : Raw K mg "items_of" sItems ["rows"]) (T : GT mg) : Def P w K mg base CX0 "items_of" 1 ["rows"] (spItems K) := by
  refine R.def fun f fd F => F.ok scItems (fun vs H Q E h => ?_) (fun cdv A outer s H vs Q E hr h => ?_)
  · obtain ⟨a, xs, ds, rfl, _⟩ := h
    rfl
  · obtain ⟨a, xs, ds, rfl, sq, dp, hl, k⟩ := h
    refine ⟨_, pss_one (ps_ret (pe_lc (own := [("row", 1)]) (g := gName 1) (tt := tTest (tCB (rIsi K) (tCons (tVar 1) (tCons (tC (.ty "tuple")) tNil)))) rfl scItems.nd (pi_tup (pv 0)) (blkOk_by (own := [("row", 1)]) (N := ["rows", "row"]) (sc := defScope sItems) (by decide +kernel))
          (fun _ _ _ _ _ => pg_name (i := 1) scItems.nd rfl (Or.inl rfl)) (fun _ _ _ _ _ => pts_one (pt_val (pe_callB (show CallR _ _ (rIsi K) from call_isi) (by rfl) T.isi (by decide +kernel) (pa_cons (pv 1) (pa_cons (pe_bltn (v := .ty "tuple") (by rfl) T.tup (by decide +kernel) rfl) pa_nil))))) (fun _ _ _ _ _ => pv 1))), ?_⟩
    refine ⟨_, rfl, a, rfl, ⟨_, sq⟩, fun D hD => lc_tup (K := K) (a := a) (xs := xs) (fun i H' => Same H H' ∧ ∃ ys, H' D = some (.lst ys) ∧ DpAll K H ys ((ds.take i).filter isT)) ⟨same_upd hD, [], upd_same, .nil⟩ (fun i H' _ h => h.1.sqT sq) ?_ ?_⟩
    · rintro i x H1 hx ⟨s1, ys, h1, d1⟩
      obtain ⟨d, hd, dx⟩ := dp_at dp hx
      have dx1 := dx.keep s1
      refine ⟨rfl, _, rfl, x, _, _, _, isT d, rfl, .ty _, dp_ty dx1, kit_ty (kit_tup dx1), isT d, rfl, ?_⟩
      cases ht : isT d with
      | true =>
        refine iteT ⟨_, rfl, ys, h1, ?_, ?_⟩
        · have := d1.length
          have := List.length_filter_le isT (ds.take i)
          have := List.length_take (i := i) (l := ds)
          have : ds.length ≤ 1000 := hl
          rw [sizeLine_eq]; omega
        · have su : Same H (upd H1 D (.lst (ys ++ [x]))) := fun y o hy => by rw [upd_ne (ne_of_none hy hD)]; exact s1 y o hy
          refine ⟨su, _, upd_same, ?_⟩
          rw [take_more hd, List.filter_append, List.filter_cons_of_pos ht]
          exact DpAll.snoc d1 dx
      | false =>
        refine iteF ⟨s1, ys, h1, ?_⟩
        rw [take_more hd, List.filter_append, List.filter_cons_of_neg (by rw [ht]; decide)]
        simpa using d1
    · rintro H1 ⟨s1, ys, h1, d1⟩
      rw [dp.length, List.take_length] at d1
      exact k D ys H1 hD h1 (d1.keep s1) s1
end
end K40

namespace K40
open PySem PySem.Spec PyProof.Rows L2 Rg
section
variable {P : Program} {w : World} {K : PySem.W.Frag} {mg : Str → Option Value} {base : Heap}
/-- of data that is no tuple of more than 1000 items -/
def Short (d : D) : Prop := ∀ ds, d = .tuple ds → ds.length ≤ 1000
def spS (K : PySem.W.Frag) (f : D → Bool) : Sp := fun vs H Q _ => ∃ (v : V) (d : D), vs = [v] ∧ Dp K H v d ∧ Short d ∧ ∀ H', Same H H' → Q (.bl (f d)) H'
theorem scRing : FnScope ["value", "row"] ["value"] (defScope sRing) := ⟨rfl, rfl, rfl, by decide +kernel, rfl, by decide +kernel, by decide +kernel⟩
theorem filter_items {ds : List D} (h : ds.all rowD = true) : ∀ d ∈ ds.filter isT, itemD d = true := fun d hd => by
  obtain ⟨h1, h2⟩ := List.mem_filter.mp hd
  have := List.all_eq_true.mp h d h1
  unfold rowD at this
  rw [isT_emp h2] at this
  have e : stoneD d = false := by cases d <;> first | rfl | cases h2
  rw [e] at this
  simpa using this
theorem ok_ring (R : Raw K mg "is_ring" sRing ["value"]) (T : GT mg) (DR : Def P w K mg base CX0 "is_row" 4 ["value"] (spB K rowD)) (DK : Def P w K mg base CX0 "keys_differ" 1 ["items"] (spKeys K)) (DI : Def P w K mg base CX0 "items_of" 1 ["rows"] (spItems K)) : Def P w K mg base CX0 "is_ring" 5 ["value"] (spS K ringD) := by
  obtain ⟨fR, dR, GR, gR, kR, bR⟩ := DR
  obtain ⟨fK, dK, GK, gK, kK, bK⟩ := DK
  obtain ⟨fI, dI, GI, gI, kI, bI⟩ := DI
  refine R.def fun f fd F => F.ok scRing (fun vs H Q E h => ?_) (fun cdv A outer s H vs Q E hr h => ?_)
  · obtain ⟨v, d, rfl, _⟩ := h
    rfl
  · obtain ⟨v, d, rfl, hd, hS, k⟩ := h
    have hr1 : Room 1 _ := hr.mono (by decide)
    refine ⟨_, pss_cons (ps_if (PW.pt (pw_or (pt_not (pt_val (pe_callB call_isi (by rfl) T.isi (by decide +kernel) (pa_cons (pv 0) (pa_cons (pe_bltn (v := .ty "tuple") (by rfl) T.tup (by decide +kernel) rfl) pa_nil)))))
        (pw_or1 (pt_not (pt_val (pe_callB (cr_all rfl) (by rfl) T.all (by decide +kernel) (pa_cons (pe_lc (own := [("row", 1)]) (g := gName 1) (tt := tYes) (te := tCall (spB K rowD) [] E (tCons (tVar 1) tNil)) rfl scRing.nd (pi_tup (pv 0)) (blkOk_by (own := [("row", 1)]) (N := ["value", "row"]) (sc := defScope sRing) (by decide +kernel))
          (fun _ _ _ _ _ => pg_name (i := 1) scRing.nd rfl (Or.inl rfl)) (fun _ _ _ _ _ => pts_nil) (fun _ _ _ _ _ => pe_call GR hr (by rfl) gR kR bR .nil pass0 (pa_cons (pv 1) pa_nil))) pa_nil)))))))
        (pss_one (ps_ret pe_bl)) pss_nil)
      (pss_one (ps_ret (pe_and (pe_callB (cr_any rfl) (by rfl) T.any (by decide +kernel) (pa_cons (pe_lc (own := [("row", 1)]) (g := gName 1) (tt := tYes) rfl scRing.nd (pi_tup (pv 0)) (blkOk_by (own := [("row", 1)]) (N := ["value", "row"]) (sc := defScope sRing) (by decide +kernel))
          (fun _ _ _ _ _ => pg_name (i := 1) scRing.nd rfl (Or.inl rfl)) (fun _ _ _ _ _ => pts_nil) (fun _ _ _ _ _ => pe_cmpR (show OpR _ _ _ from op_isN) (pv 1) pe_non (nomark _))) pa_nil))
        (pe_one (pe_call GK hr1 (by rfl) gK kK bK .nil pass0 (pa_cons (pe_call GI hr1 (by rfl) gI kI bI .nil pass0 (pa_cons (pv 0) pa_nil)) pa_nil)))))), ?_⟩
    refine ⟨_, rfl, v, _, _, _, isT d, rfl, .ty _, dp_ty hd, kit_ty (kit_tup hd), isT d, rfl, ?_⟩
    cases ht : isT d with
    | false =>
      refine iteT ?_
      have z := k H (Same.refl _)
      rw [show ringD d = false by cases d <;> first | rfl | cases ht] at z
      exact iteT z
    | true =>
      obtain ⟨ds, rfl⟩ := isT_tup ht
      have hl := hS ds rfl
      obtain ⟨a, vs, rfl, sq, dp⟩ := dp_tup hd
      refine iteF ?_
      refine ⟨_, rfl, a, rfl, ⟨_, sq⟩, fun D hD => lc_tup (K := K) (a := a) (xs := vs) (fun i H' => Same H H' ∧ H' D = some (.lst ((ds.take i).map fun d => V.bl (rowD d)))) ⟨same_upd hD, upd_same⟩ (fun i H' _ h => h.1.sqT sq) ?_ ?_⟩
      · rintro i x H1 hx ⟨s1, h1⟩
        obtain ⟨d, hd, dx⟩ := dp_at dp hx
        refine ⟨rfl, _, rfl, x, d, rfl, dx.keep s1, fun H2 s2 => ?_⟩
        have h2 := s2 D _ h1
        refine ⟨_, h2, ?_, fun y o hy => ?_, ?_⟩
        · rw [List.length_map, List.length_take, sizeLine_eq]; omega
        · rw [upd_ne (ne_of_none hy hD)]; exact s2 y o (s1 y o hy)
        · rw [upd_same, take_more hd, List.map_append]; rfl
      · rintro H1 ⟨s1, h1⟩
        rw [dp.length, List.take_length] at h1
        refine ⟨D, ds.map rowD, rfl, ?_, ?_⟩
        · refine SqL.of (h1.trans ?_)
          rw [List.map_map]; rfl
        rw [all_map]
        cases hal : ds.all rowD with
        | false =>
          refine ⟨_, rfl, iteT ?_⟩
          have z := k H1 s1
          rw [show ringD (.tuple ds) = (ds.all rowD && (ds.any emp && keysDiffer (ds.filter isT))) from rfl, hal] at z
          exact z
        | true =>
          refine ⟨_, rfl, iteF ?_⟩
          refine ⟨_, rfl, a, rfl, ⟨_, s1.sqT sq⟩, fun D2 hD2 => lc_tup (K := K) (a := a) (xs := vs) (fun i H' => Same H1 H' ∧ H' D2 = some (.lst ((ds.take i).map fun d => V.bl (emp d)))) ⟨same_upd hD2, upd_same⟩ (fun i H' _ h => h.1.sqT (s1.sqT sq)) ?_ ?_⟩
          · rintro i x H2 hx ⟨s2, h2⟩
            obtain ⟨d, hd, dx⟩ := dp_at dp hx
            refine ⟨rfl, _, rfl, rfl, _, h2, ?_, fun y o hy => ?_, ?_⟩
            · rw [List.length_map, List.length_take, sizeLine_eq]; omega
            · rw [upd_ne (ne_of_none hy hD2)]; exact s2 y o hy
            · rw [upd_same, take_more hd, List.map_append]
              refine congrArg (fun z => some (HO.lst (_ ++ [V.bl z]))) ?_
              cases dx <;> rfl
          · rintro H2 ⟨s2, h2⟩
            rw [dp.length, List.take_length] at h2
            refine ⟨D2, ds.map emp, rfl, ?_, ?_⟩
            · refine SqL.of (h2.trans ?_)
              rw [List.map_map]; rfl
            rw [any_map]
            have s12 := s1.trans s2
            cases han : ds.any emp with
            | false =>
              have z := k H2 s12
              rw [show ringD (.tuple ds) = (ds.all rowD && (ds.any emp && keysDiffer (ds.filter isT))) from rfl, hal, han] at z
              exact ⟨_, rfl, iteF z⟩
            | true =>
              refine ⟨_, rfl, iteT ⟨_, rfl, a, vs, ds, rfl, s12.sqT sq, DpAll.keep s12 dp, hl, fun p ys H3 hp h3 dp3 s3 => ⟨p, ys, _, rfl, .inl (SqL.of h3), dp3, filter_items hal, Nat.le_trans (List.length_filter_le _ _) hl, fun H4 s4 => ?_⟩⟩⟩
              have z := k H4 ((s12.trans s3).trans s4)
              rw [show ringD (.tuple ds) = (ds.all rowD && (ds.any emp && keysDiffer (ds.filter isT))) from rfl, hal, han] at z
              exact z
end
end K40

namespace K40
open PySem PySem.Spec PyProof.Rows L2 Rg PySem.RingX
abbrev sWay : Stmt := s_is_way
abbrev sCkR : Stmt := s_check_ring
abbrev sCkW : Stmt := s_check_way
abbrev sHome : Stmt := s_home
abbrev sDist : Stmt := s_distance
abbrev sGap : Stmt := s_gap
def wayV : List V := [.str "plain", .str "stones", .str "sorted"]
def wayD : D → Bool | .str x => inV (.str x) wayV | _ => false
def spCk (K : PySem.W.Frag) (C : Addr) (fl : Str) (f : D → Bool) : Sp := fun vs H Q E => ∃ (v : V) (d : D), vs = [v] ∧ Dp K H v d ∧ Short d ∧ (f d = true → ∀ H', Same H H' → Q .non H') ∧ (f d = false → Rz C fl v H E)
structure EX (P : Program) (K : PySem.W.Frag) (mg : Str → Option Value) (CW CR fW fR : Addr) : Prop where
  way : ExTxt P K mg CW fW "BadWay" ["way"]
  ring : ExTxt P K mg CR fR "BadRing" ["ring"]
section
variable {P : Program} {w : World} {K : PySem.W.Frag} {mg : Str → Option Value} {base : Heap} {CW CR fW fR : Addr}
theorem scWay : FnScope ["value"] ["value"] (defScope sWay) := ⟨rfl, rfl, rfl, by decide +kernel, rfl, by decide +kernel, by decide +kernel⟩
/-- WAYS is a tuple of the top -/
def WaysAt (K : PySem.W.Frag) (mg : Str → Option Value) : Prop := ∃ a, mg "WAYS" = some (.ref a) ∧ ∀ H, SqT K H a wayV
theorem wayD_str {d : D} (h : isS d = false) : wayD d = false := by cases d <;> first | rfl | cases h
theorem ok_way (R : Raw K mg "is_way" sWay ["value"]) (T : GT mg) (hW : WaysAt K mg) : Def P w K mg base CX0 "is_way" 1 ["value"] (spB K wayD) := by
  obtain ⟨aW, gW, dW⟩ := hW
  refine R.def fun f fd F => F.ok scWay (fun vs H Q E h => ?_) (fun cdv A outer s H vs Q E hr h => ?_)
  · obtain ⟨v, d, rfl, _⟩ := h
    rfl
  · obtain ⟨v, d, rfl, hd, k⟩ := h
    refine ⟨_, pss_one (ps_ret (pe_and (pe_callB call_isi (by rfl) T.isi (by decide +kernel) (pa_cons (pv 0) (pa_cons (pe_bltn (v := .ty "str") (by rfl) T.str (by decide +kernel) rfl) pa_nil)))
        (pe_one (pe_cmpR op_in_seq (pv 0) (pe_glob (v := .ref aW) (by rfl) gW rfl) (by rfl))))), ?_⟩
    have z := k H (Same.refl _)
    refine ⟨_, rfl, v, _, _, _, isS d, rfl, .ty _, dp_ty hd, kit_ty (kit_str hd), _, rfl, ?_⟩
    cases hs : isS d with
    | false =>
      rw [wayD_str hs] at z
      exact iteF z
    | true =>
      cases hd <;> first | cases hs | skip
      exact iteT ⟨_, rfl, aW, wayV, rfl, .inr (dW H), rfl, by kernel_rfl, z⟩
theorem scCkR : FnScope ["ring"] ["ring"] (defScope sCkR) := ⟨rfl, rfl, rfl, by decide +kernel, rfl, by decide +kernel, by decide +kernel⟩
theorem ok_ckR (R : Raw K mg "check_ring" sCkR ["ring"]) (X : EX P K mg CW CR fW fR) (DR : Def P w K mg base CX0 "is_ring" 5 ["value"] (spS K ringD)) : Def P w K mg base (L2.CX P w) "check_ring" 6 ["ring"] (spCk K CR "ring" ringD) := by
  obtain ⟨fR, dR, GR, gR, kR, bR⟩ := DR
  refine R.def fun f fd F => F.okX scCkR (fun vs H Q E h => ?_) (fun cdv A outer s H vs Q E hr h => ?_)
  · obtain ⟨v, d, rfl, _⟩ := h
    rfl
  · obtain ⟨v, d, rfl, hd, hS, k1, k2⟩ := h
    have hr1 : Room 1 _ := hr.mono (by decide)
    refine ⟨_, pss_one (ps_if (pt_not (pt_val (pe_call GR hr (by rfl) gR kR bR .nil pass0 (pa_cons (pv 0) pa_nil)))) (pss_one (ps_raiseX rfl X.ring hr1 (takes_of rfl rfl rfl rfl) (pa_cons (pv 0) pa_nil))) pss_nil), ?_⟩
    refine ⟨_, rfl, v, d, rfl, hd, hS, fun H1 s1 => ⟨_, rfl, ?_⟩⟩
    cases e : ringD d with
    | true => exact iteF (k1 e H1 s1)
    | false => exact iteT ⟨_, rfl, rfl, fun h => (nomatch h), fun _ dd hd => k2 e H1 dd s1 hd⟩
theorem scCkW : FnScope ["way"] ["way"] (defScope sCkW) := ⟨rfl, rfl, rfl, by decide +kernel, rfl, by decide +kernel, by decide +kernel⟩
theorem ok_ckW (R : Raw K mg "check_way" sCkW ["way"]) (X : EX P K mg CW CR fW fR) (DR : Def P w K mg base CX0 "is_way" 1 ["value"] (spB K wayD)) : Def P w K mg base (L2.CX P w) "check_way" 2 ["way"] (spCk K CW "way" wayD) := by
  obtain ⟨fR, dR, GR, gR, kR, bR⟩ := DR
  refine R.def fun f fd F => F.okX scCkW (fun vs H Q E h => ?_) (fun cdv A outer s H vs Q E hr h => ?_)
  · obtain ⟨v, d, rfl, _⟩ := h
    rfl
  · obtain ⟨v, d, rfl, hd, hS, k1, k2⟩ := h
    refine ⟨_, pss_one (ps_if (pt_not (pt_val (pe_call GR hr (by rfl) gR kR bR .nil pass0 (pa_cons (pv 0) pa_nil)))) (pss_one (ps_raiseX rfl X.way hr (takes_of rfl rfl rfl rfl) (pa_cons (pv 0) pa_nil))) pss_nil), ?_⟩
    refine ⟨_, rfl, v, d, rfl, hd, fun H1 s1 => ⟨_, rfl, ?_⟩⟩
    cases e : wayD d with
    | true => exact iteF (k1 e H1 s1)
    | false => exact iteT ⟨_, rfl, rfl, fun h => (nomatch h), fun _ dd hd => k2 e H1 dd s1 hd⟩
def spHome (K : PySem.W.Frag) : Sp := fun vs H Q _ => ∃ (a : Addr) (k x c m : Int), vs = [.ref a, .int m] ∧ SqT K H a [.int k, .int x, .int c] ∧ 0 < m ∧ Q (.int (x % m)) H
theorem scHome : FnScope ["item", "many"] ["item", "many"] (defScope sHome) := ⟨rfl, rfl, rfl, by decide +kernel, rfl, by decide +kernel, by decide +kernel⟩
theorem ok_home (R : Raw K mg "home" sHome ["item", "many"]) : Def P w K mg base CX0 "home" 1 ["item", "many"] (spHome K) := by
  refine R.def fun f fd F => F.ok scHome (fun vs H Q E h => ?_) (fun cdv A outer s H vs Q E hr h => ?_)
  · obtain ⟨a, k, x, c, m, rfl, _⟩ := h
    rfl
  · obtain ⟨a, k, x, c, m, rfl, sq, hm, q⟩ := h
    refine ⟨_, pss_one (ps_ret (pe_op op_mod (pe_ix ix_tup (pv 0) pe_int (fun _ _ => rfl)) (pv 1))), ?_⟩
    exact ⟨_, rfl, a, _, 1, .int x, rfl, rfl, sq, rfl, _, rfl, _, _, rfl, rfl, hm, q⟩
def spDist : Sp := fun vs H Q _ => ∃ (i j m : Int), vs = [.int i, .int j, .int m] ∧ 0 < m ∧ Q (.int ((j - i) % m)) H
theorem scDist : FnScope ["one", "other", "many"] ["one", "other", "many"] (defScope sDist) := ⟨rfl, rfl, rfl, by decide +kernel, rfl, by decide +kernel, by decide +kernel⟩
theorem ok_dist (R : Raw K mg "distance" sDist ["one", "other", "many"]) : Def P w K mg base CX0 "distance" 1 ["one", "other", "many"] spDist := by
  refine R.def fun f fd F => F.ok scDist (fun vs H Q E h => ?_) (fun cdv A outer s H vs Q E hr h => ?_)
  · obtain ⟨i, j, m, rfl, _⟩ := h
    rfl
  · obtain ⟨i, j, m, rfl, hm, q⟩ := h
    refine ⟨_, pss_one (ps_ret (pe_op op_mod (pe_op op_sub (pv 1) (pv 0)) (pv 2))), ?_⟩
    exact ⟨_, rfl, _, rfl, _, _, rfl, rfl, _, rfl, _, _, rfl, rfl, hm, q⟩
def spGap (K : PySem.W.Frag) : Sp := fun vs H Q _ => ∃ (a b : Addr) (xs : List V) (r : Nat) (k x c : Int), vs = [.ref a, .int r] ∧ SqX K H a xs ∧ xs[r]? = some (.ref b) ∧ SqT K H b [.int k, .int x, .int c] ∧ Q (.int ((r - x) % (xs.length : Int))) H
theorem scGap : FnScope ["rows", "row"] ["rows", "row"] (defScope sGap) := ⟨rfl, rfl, rfl, by decide +kernel, rfl, by decide +kernel, by decide +kernel⟩
theorem ok_gap (R : Raw K mg "gap" sGap ["rows", "row"]) (T : GT mg) (DH : Def P w K mg base CX0 "home" 1 ["item", "many"] (spHome K)) (DD : Def P w K mg base CX0 "distance" 1 ["one", "other", "many"] spDist) : Def P w K mg base CX0 "gap" 2 ["rows", "row"] (spGap K) := by
  obtain ⟨fH, dH, GH, gH, kH, bH⟩ := DH
  obtain ⟨fD, dD, GD, gD, kD, bD⟩ := DD
  refine R.def fun f fd F => F.ok scGap (fun vs H Q E h => ?_) (fun cdv A outer s H vs Q E hr h => ?_)
  · obtain ⟨a, b, xs, r, k, x, c, rfl, _⟩ := h
    rfl
  · obtain ⟨a, b, xs, r, k, x, c, rfl, sq, hx, sb, q⟩ := h
    have hm : (0 : Int) < (xs.length : Nat) := by have := (List.getElem?_eq_some_iff.mp hx).1; omega
    have e : ((r : Int) - x % (xs.length : Int)) % (xs.length : Int) = (r - x) % (xs.length : Int) := by rw [Int.sub_emod, Int.emod_emod_of_dvd _ (Int.dvd_refl _), ← Int.sub_emod]
    rw [← e] at q
    rcases sq with sq | sq
    · refine ⟨_, pss_one (ps_ret (pe_call GD hr (by rfl) gD kD bD .nil pass0 (pa_cons (pe_call GH hr (by rfl) gH kH bH .nil pass0 (pa_cons (pe_ix ix_list (pv 0) (pv 1) (fun _ _ => rfl)) (pa_cons (pe_callB call_len_seq (by rfl) T.len PySem.boot_len (pa_cons (pv 0) pa_nil)) pa_nil))) (pa_cons (pv 1) (pa_cons (pe_callB call_len_seq (by rfl) T.len PySem.boot_len (pa_cons (pv 0) pa_nil)) pa_nil))))), ?_⟩
      exact ⟨_, rfl, _, rfl, a, xs, _, _, rfl, rfl, sq, atI_nat hx, _, rfl, a, xs, rfl, .inl sq, b, k, x, c, _, rfl, sb, hm, _, rfl, _, rfl, a, xs, rfl, .inl sq, _, _, _, rfl, hm, q⟩
    · refine ⟨_, pss_one (ps_ret (pe_call GD hr (by rfl) gD kD bD .nil pass0 (pa_cons (pe_call GH hr (by rfl) gH kH bH .nil pass0 (pa_cons (pe_ix ix_tup (pv 0) (pv 1) (fun _ _ => rfl)) (pa_cons (pe_callB call_len_seq (by rfl) T.len PySem.boot_len (pa_cons (pv 0) pa_nil)) pa_nil))) (pa_cons (pv 1) (pa_cons (pe_callB call_len_seq (by rfl) T.len PySem.boot_len (pa_cons (pv 0) pa_nil)) pa_nil))))), ?_⟩
      exact ⟨_, rfl, _, rfl, a, xs, _, _, rfl, rfl, sq, atI_nat hx, _, rfl, a, xs, rfl, .inr sq, b, k, x, c, _, rfl, sb, hm, _, rfl, _, rfl, a, xs, rfl, .inr sq, _, _, _, rfl, hm, q⟩
end
end K40

namespace L2
open PySem PySem.Spec PyProof.Rows
end L2
namespace K40
open PySem PySem.Spec PyProof.Rows L2 Rg PySem.RingX
abbrev sRuns : Stmt := s_runs
abbrev sAll : Stmt := s_all_items
theorem dp_emp {K : PySem.W.Frag} {H : Hp} {v : V} {d : D} (h : Dp K H v d) : decide (v = .non) = emp d := by cases h <;> rfl
theorem dp_row {K : PySem.W.Frag} {H : Hp} {xs : List V} {ds : List D} (dp : DpAll K H xs ds) (i : Int) (h1 : -(xs.length : Int) ≤ i) (h2 : i < xs.length) : ∃ v, atI xs i = some v ∧ Dp K H v (row ds i) := by
  have hlen := dp.length
  obtain ⟨j, hj, e1, e2⟩ : ∃ j : Nat, j < ds.length ∧ ixN xs.length i = some j ∧ row ds i = row ds (j : Int) := by
    unfold ixN
    by_cases h0 : 0 ≤ i
    · rw [if_pos h0, if_pos h2]
      exact ⟨i.toNat, by omega, rfl, by rw [Int.toNat_of_nonneg h0]⟩
    · rw [if_neg h0, if_pos h1]
      refine ⟨(i + xs.length).toNat, by omega, rfl, ?_⟩
      have := row_add ds i 1
      rw [Int.toNat_of_nonneg (by omega), hlen, ← this, Int.mul_one]
  obtain ⟨v, g1, g2⟩ := dp.get (row_get? hj)
  refine ⟨v, ?_, ?_⟩
  · unfold atI
    rw [e1]
    exact g1
  · rw [e2]; exact g2
def pq (q : Nat × Nat) : D := .tuple [.int q.1, .int q.2]
section
variable {P : Program} {w : World} {K : PySem.W.Frag} {mg : Str → Option Value} {base : Heap} {CW CR fW fR : Addr}
def spRuns (K : PySem.W.Frag) (CR : Addr) : Sp := fun vs H Q E => ∃ (v : V) (d : D), vs = [v] ∧ Dp K H v d ∧ Short d ∧ (∀ ds, d = .tuple ds → ringL ds = true → ∀ (p : Addr) (ys : List V) (H' : Hp), H p = none → H' p = some (.lst ys) → DpAll K (del H' p) ys ((runs ds).map pq) → Same H H' → Q (.ref p) H') ∧ (ringD d = false → Rz CR "ring" v H E)
theorem ring_tup {d : D} (h : ringD d = true) : ∃ ds, d = .tuple ds ∧ ringL ds = true := by
  cases d <;> first | exact ⟨_, rfl, h⟩ | cases h
theorem ring_open {ds : List D} (h : ringL ds = true) : Open_ ds ∧ 0 < ds.length := by
  unfold ringL at h
  obtain ⟨_, h⟩ := Bool.and_eq_true_iff.mp h
  obtain ⟨h, _⟩ := Bool.and_eq_true_iff.mp h
  obtain ⟨d, hd, he⟩ := List.any_eq_true.mp h
  obtain ⟨i, hi, e⟩ := List.getElem_of_mem hd
  refine ⟨⟨(i : Int), ?_⟩, by omega⟩
  unfold E
  rw [row_nat hi, e]
  exact he
theorem scRuns : FnScope ["ring", "found", "first", "many"] ["ring"] (defScope sRuns) := ⟨rfl, rfl, rfl, by decide +kernel, rfl, by decide +kernel, by decide +kernel⟩
theorem ok_runs (R : Raw K mg "runs" sRuns ["ring"]) (T : GT mg) (DC : Def P w K mg base (L2.CX P w) "check_ring" 6 ["ring"] (spCk K CR "ring" ringD)) : Def P w K mg base (L2.CX P w) "runs" 7 ["ring"] (spRuns K CR) := by
  obtain ⟨fC, dC, GC, gC, kC, bC⟩ := DC
  refine R.def fun f fd F => F.okX scRuns (fun vs H Q E h => ?_) (fun cdv A outer s H vs Q E hr h => ?_)
  · obtain ⟨v, d, rfl, _⟩ := h
    rfl
  · obtain ⟨v, d, rfl, hd, hS, k1, k2⟩ := h
    refine ⟨_, pss_cons (ps_expr (pe_call (E := E) GC hr (by rfl) gC kC bC .nil (passes_call (takes_of rfl rfl rfl rfl) (fun _ _ _ _ z => z)) (pa_cons (pv 0) pa_nil)))
      (PSs.nox (pss_cons (ps_set (i := 1) scRuns.nd rfl (Or.inl rfl) (pe_lst pa_nil))
      (pss_cons (ps_for PassesOwn.never rfl (pi_range1 (by rfl) T.range (pa_cons (pe_callB call_len_seq (by rfl) T.len PySem.boot_len (pa_cons (pv 0) pa_nil)) pa_nil)) (pg_name (i := 2) scRuns.nd rfl (Or.inl rfl))
        (pss_one (ps_if (PW.pt (pw_and (pt_cmpR op_notN (pe_ix ix_tup (pv 0) (pv 2) (fun _ _ => rfl)) pe_non (nomark _)) (pw_and1 (pt_cmpR op_isN (pe_ix ix_tup (pv 0) (pe_op op_sub (pv 2) pe_int) (fun _ _ => rfl)) pe_non (nomark _)))))
          (pss_cons (ps_set (i := 3) scRuns.nd rfl (Or.inl rfl) pe_int)
          (pss_cons (ps_while PassesOwn.never (pt_cmpR op_notN (pe_ix ix_tup (pv 0) (pe_op op_mod (pe_op op_add (pv 2) (pv 3)) (pe_callB call_len_seq (by rfl) T.len PySem.boot_len (pa_cons (pv 0) pa_nil))) (fun _ _ => rfl)) pe_non (nomark _))
            (pss_one (ps_aug (i := 3) scRuns.nd rfl (Or.inl rfl) pe_int ip_add)))
          (pss_one (ps_expr (pe_bm PySem.F.plainAttrs_list PySem.F.slot_list_append PySem.F.type_list_append mt_append (pv 1) (pa_cons (pe_tup (pa_cons (pv 2) (pa_cons (pv 3) pa_nil))) pa_nil))))))
          pss_nil)))
      (pss_one (ps_ret (pv 1)))))), ?_⟩
    refine ⟨_, rfl, v, d, rfl, hd, hS, fun e H1 s1 => ?_, fun e => k2 e⟩
    obtain ⟨ds, rfl, hring⟩ := ring_tup e
    obtain ⟨hop, hpos⟩ := ring_open hring
    have hl := hS ds rfl
    obtain ⟨a, xs, rfl, sq, dp⟩ := dp_tup hd
    have hxl := dp.length
    refine ⟨(by show 0 ≤ sizeLine; decide), fun l hl1 => ?_⟩
    have sl : Same H (upd H1 l (.lst [])) := s1.trans (same_upd hl1)
    refine ⟨_, rfl, a, xs, rfl, .inr (sl.sqT sq), _, rfl, by omega, by omega, for_range (n := xs.length) (fun i σ H' => (∃ x2 x3, σ = [some (.ref a), some (.ref l), x2, x3]) ∧ Same H H' ∧ ∃ ys, H' l = some (.lst ys) ∧ DpAll K (del H' l) ys ((runsTo ds i).map pq)) ⟨⟨_, _, rfl⟩, sl, [], upd_same, .nil⟩ ?_ ?_⟩
    · rintro i σ H2 hi ⟨⟨x2, x3, rfl⟩, s2, ys, hy, dy⟩
      have hi2 : i < ds.length := by omega
      obtain ⟨v1, a1, b1⟩ := dp_row dp (i : Int) (by omega) (by omega)
      obtain ⟨v2, a2, b2⟩ := dp_row dp ((i : Int) - 1) (by omega) (by omega)
      have no : ∀ (c : ¬ (¬ Rg.E ds (i : Int) ∧ Rg.E ds ((i : Int) - 1))), (runsTo ds (i + 1)).map pq = (runsTo ds i).map pq := fun c => by
        rw [runsTo_succ, if_neg c, List.append_nil]
      have g1 : atI xs (0 + (i : Int)) = some v1 := by rw [Int.zero_add]; exact a1
      refine ⟨_, rfl, _, rfl, a, xs, _, v1, rfl, rfl, s2.sqT sq, g1, rfl, _, rfl, ?_⟩
      rw [dp_emp b1]
      cases e1 : emp (row ds (i : Int)) with
      | true => exact iteF ⟨⟨_, _, rfl⟩, s2, ys, hy, by rw [no (fun c => c.1 e1)]; exact dy⟩
      | false =>
        have g2 : atI xs (0 + (i : Int) - 1) = some v2 := by rw [Int.zero_add]; exact a2
        refine iteT ⟨_, rfl, _, rfl, _, _, rfl, rfl, a, xs, _, v2, rfl, rfl, s2.sqT sq, g2, rfl, _, rfl, ?_⟩
        rw [dp_emp b2]
        cases e2 : emp (row ds ((i : Int) - 1)) with
        | false => exact iteF ⟨⟨_, _, rfl⟩, s2, ys, hy, by rw [no (fun c => by have := c.2; unfold Rg.E at this; rw [e2] at this; cases this)]; exact dy⟩
        | true =>
          have c1 : ¬ Rg.E ds (i : Int) := fun z => by unfold Rg.E at z; rw [e1] at z; cases z
          obtain ⟨n, hn, isL⟩ := len_ex hpos hop (i : Int)
          refine iteT ⟨fun m σ H' => ∃ k : Nat, m = n - k ∧ 1 ≤ k ∧ k ≤ n ∧ H' = H2 ∧ σ = [some (.ref a), some (.ref l), some (.int (0 + i)), some (.int k)], ⟨_, 1, rfl, Nat.le_refl _, ?_, rfl, rfl⟩, ?_⟩
          · refine Nat.pos_of_ne_zero fun z => c1 ?_
            subst z
            have := isL.1
            rw [show (i : Int) + ((0 : Nat) : Int) = i by omega] at this
            exact this
          · rintro m σ H' ⟨k, rfl, hk1, hk2, rfl, rfl⟩
            obtain ⟨v3, a3, b3⟩ := dp_row dp (((i : Int) + k) % (ds.length : Int)) (by have := Int.emod_nonneg ((i : Int) + k) (show (ds.length : Int) ≠ 0 by omega); omega) (by have := Int.emod_lt_of_pos ((i : Int) + k) (show (0 : Int) < ds.length by omega); omega)
            rw [row_mod] at b3
            have g3 : atI xs ((0 + (i : Int) + k) % (xs.length : Int)) = some v3 := by rw [Int.zero_add, hxl]; exact a3
            refine ⟨_, rfl, _, rfl, _, rfl, _, _, rfl, rfl, _, rfl, a, xs, rfl, .inr (s2.sqT sq), _, _, rfl, rfl, (by show (0 : Int) < (xs.length : Nat); omega), a, xs, _, v3, rfl, rfl, s2.sqT sq, g3, rfl, _, rfl, ?_⟩
            rw [dp_emp b3]
            cases e3 : emp (row ds ((i : Int) + k)) with
            | false =>
              have hkn : k < n := by
                rcases Nat.lt_or_ge k n with z | z
                · exact z
                · have ek : k = n := by omega
                  subst ek
                  have := isL.1
                  unfold Rg.E at this
                  rw [e3] at this
                  cases this
              refine iteT ⟨fun σ' H'' => H'' = H' ∧ σ' = [some (.ref a), some (.ref l), some (.int (0 + i)), some (.int ((k + 1 : Nat) : Int))], fun σ' H' ⟨z1, z2⟩ => ⟨n - (k + 1), by omega, k + 1, rfl, by omega, hkn, z1, z2⟩, ?_⟩
              exact ⟨_, rfl, _, _, rfl, rfl, rfl, rfl⟩
            | true =>
              have ek : k = n := by
                rcases Nat.lt_or_ge k n with z | z
                · exact absurd e3 (isL.2 k z)
                · omega
              subst ek
              refine iteF ⟨_, rfl, .inl ⟨rfl, _, SqL.of hy⟩, _, rfl, _, rfl, (by show 2 ≤ sizeLine; decide), fun t ht => ?_⟩
              have ylen := dy.length
              have rl : ((runsTo ds i).map pq).length ≤ i := by
                rw [List.length_map]
                unfold runsTo
                refine Nat.le_trans (List.length_filterMap_le _ _) ?_
                rw [List.length_range]; exact Nat.le_refl _
              have nt : l ≠ t := ne_of_none hy ht
              refine ⟨l, _, _, rfl, rfl, (upd_ne nt).trans hy, by rw [sizeLine_eq]; omega, ⟨_, _, rfl⟩, (s2.trans (same_upd ht)).updl (s1.free hl1), _, upd_same, ?_⟩
              rw [runsTo_succ, if_pos ⟨c1, e2⟩, List.map_append, del_upd]
              refine DpAll.snoc (DpAll.keep (del_new hy ht) dy) ?_
              rw [show pq (i, len ds (i : Int)) = .tuple [.int (i : Int), .int (k : Int)] by unfold pq; rw [len_of isL]]
              have et : del (upd H' t (.tup [V.int (0 + i), V.int k])) l t = some (.tup [V.int (0 + i), V.int k]) := (del_ne (Ne.symm nt)).trans upd_same
              have e0 : (V.int (i : Int)) = V.int (0 + i) := by rw [Int.zero_add]
              refine .tup (SqT.of et) (.cons ?_ (.cons (.int _) .nil))
              rw [← e0]
              exact .int _
    · rintro σ H2 ⟨⟨x2, x3, rfl⟩, s2, ys, hy, dy⟩
      rw [hxl] at dy
      exact ⟨_, rfl, k1 ds rfl hring l ys H2 (s1.free hl1) hy dy s2⟩
/-- the items, as a tuple of data -/
def spAll (K : PySem.W.Frag) (CR : Addr) : Sp := fun vs H Q E => ∃ (v : V) (d : D), vs = [v] ∧ Dp K H v d ∧ Short d ∧ (∀ ds, d = .tuple ds → ringL ds = true → ∀ (x : V) (H' : Hp), Dp K H' x (.tuple (ds.filter isT)) → Same H H' → Q x H') ∧ (ringD d = false → Rz CR "ring" v H E)
theorem scAll : FnScope ["ring"] ["ring"] (defScope sAll) := ⟨rfl, rfl, rfl, by decide +kernel, rfl, by decide +kernel, by decide +kernel⟩
theorem ok_all (R : Raw K mg "all_items" sAll ["ring"]) (T : GT mg) (DC : Def P w K mg base (L2.CX P w) "check_ring" 6 ["ring"] (spCk K CR "ring" ringD)) (DI : Def P w K mg base CX0 "items_of" 1 ["rows"] (spItems K)) : Def P w K mg base (L2.CX P w) "all_items" 7 ["ring"] (spAll K CR) := by
  obtain ⟨fC, dC, GC, gC, kC, bC⟩ := DC
  obtain ⟨fI, dI, GI, gI, kI, bI⟩ := DI
  refine R.def fun f fd F => F.okX scAll (fun vs H Q E h => ?_) (fun cdv A outer s H vs Q E hr h => ?_)
  · obtain ⟨v, d, rfl, _⟩ := h
    rfl
  · obtain ⟨v, d, rfl, hd, hS, k1, k2⟩ := h
    have hr1 : Room 1 _ := hr.mono (by decide)
    refine ⟨_, pss_cons (ps_expr (pe_call (E := E) GC hr (by rfl) gC kC bC .nil (passes_call (takes_of rfl rfl rfl rfl) (fun _ _ _ _ z => z)) (pa_cons (pv 0) pa_nil)))
      (PSs.nox (pss_one (ps_ret (pe_tupleOf (by rfl) T.tup (pe_call GI hr1 (by rfl) gI kI bI .nil pass0 (pa_cons (pv 0) pa_nil)))))), ?_⟩
    refine ⟨_, rfl, v, d, rfl, hd, hS, fun e H1 s1 => ?_, fun e => k2 e⟩
    obtain ⟨ds, rfl, hring⟩ := ring_tup e
    obtain ⟨a, xs, rfl, sq, dp⟩ := dp_tup hd
    refine ⟨_, rfl, a, xs, ds, rfl, s1.sqT sq, DpAll.keep s1 dp, hS ds rfl, fun p ys H2 hp h2 d2 s2 => .inl ⟨p, ys, rfl, SqL.of h2, fun q hq => ?_⟩⟩
    exact k1 ds rfl hring _ _ (.tup (SqT.of upd_same) (DpAll.keep (same_upd hq) d2)) ((s1.trans s2).trans (same_upd hq))
end
end K40

namespace K40
open PySem PySem.Spec PyProof.Rows L2 Rg PySem.RingX
abbrev sReach : Stmt := s_is_reached
abbrev sOrder : Stmt := s_is_in_order
abbrev sLawful : Stmt := s_is_lawful
theorem ring_rows {ds : List D} (h : ringL ds = true) : ds.all rowD = true := by
  unfold ringL at h
  exact (Bool.and_eq_true_iff.mp h).1
theorem row_item {d : D} (h : rowD d = true) (ht : isT d = true) : itemD d = true := by
  unfold rowD at h
  rw [isT_emp ht] at h
  have e : stoneD d = false := by cases d <;> first | rfl | cases ht
  rw [e] at h
  simpa using h
theorem row_item_at {ds : List D} (h : ringL ds = true) (i : Int) (ht : isT (row ds i) = true) : itemD (row ds i) = true := row_item (List.all_eq_true.mp (ring_rows h) _ (row_mem (ring_open h).2 i)) ht
theorem row_shape {d : D} (h : rowD d = true) : d.canLay0 = true ∧ d.depth ≤ 2 := by
  cases ht : isT d with
  | true =>
    obtain ⟨k, x, m, rfl, _⟩ := item_parts (row_item h ht)
    simp [PyData.canLay0, PyData.canLayAll0, PyData.depth, PyData.depthAll]
  | false =>
    unfold rowD at h
    cases d <;> simp [isT, emp, stoneD, itemD] at h ht ⊢ <;> simp [PyData.canLay0, PyData.depth]
    subst h
    kernel_rfl
theorem rows_shape : ∀ {ds : List D}, (∀ d ∈ ds, d.canLay0 = true ∧ d.depth ≤ 2) → PyData.canLayAll0 ds = true ∧ PyData.depthAll ds ≤ 2
  | [], _ => by simp [PyData.canLayAll0, PyData.depthAll]
  | d :: ds, h => by
    obtain ⟨h1, h2⟩ := h d List.mem_cons_self
    obtain ⟨h3, h4⟩ := rows_shape fun e he => h e (List.mem_cons_of_mem _ he)
    simp only [PyData.canLayAll0, PyData.depthAll, h1, h3, Bool.and_self, true_and]
    omega
theorem ring_shape {ds : List D} (h : ringL ds = true) : SeqAt.shaped (.tuple ds) = true := by
  obtain ⟨h1, h2⟩ := rows_shape (ds := ds) fun d hd => row_shape (List.all_eq_true.mp (ring_rows h) d hd)
  unfold SeqAt.shaped
  simp only [PyData.canLay0, PyData.depth, h1, Bool.true_and]
  exact decide_eq_true (by omega)
theorem eqv_stone {d : D} : PyData.eqv d (.str "stone") = stoneD d := by cases d <;> simp [PyData.eqv, stoneD]
def Lawful (ds : List D) (x : Str) : Prop := (x = "stones" → Reached ds) ∧ (x ≠ "stones" → NoStone ds ∧ Reached ds ∧ (x ≠ "plain" → InOrder ds))
theorem inOrder_nat {ds : List D} (hm : 0 < ds.length) : InOrder ds ↔ ∀ r : Nat, r < ds.length → isT (row ds (r : Int)) = true → isT (row ds ((r : Int) + 1)) = true → gap ds ((r : Int) + 1) ≤ gap ds r + 1 := by
  constructor
  · intro h r _ h1 h2
    exact h r h1 h2
  · intro h r h1 h2
    obtain ⟨e, hl⟩ := ix_ok hm r
    have c0 : (((r % (ds.length : Int)).toNat : Nat) : Int) % ds.length = r % ds.length := by rw [e, Int.emod_emod_of_dvd _ (Int.dvd_refl _)]
    have c1 : ((((r % (ds.length : Int)).toNat : Nat) : Int) + 1) % ds.length = (r + 1) % ds.length := succ_congr c0
    have := h _ hl (by rw [row_congr c0]; exact h1) (by rw [row_congr c1]; exact h2)
    rw [gap_congr c0, gap_congr c1] at this
    exact this
/-- an item of a ring, as gap wants it -/
theorem ring_at {K : PySem.W.Frag} {H : Hp} {xs : List V} {ds : List D} (dp : DpAll K H xs ds) (hr : ringL ds = true) {r : Nat} (h : r < ds.length) (ht : isT (row ds (r : Int)) = true) : ∃ b k c, xs[r]? = some (.ref b) ∧ SqT K H b [.int k, .int (hashD (row ds r)), .int c] := by
  obtain ⟨v, h1, h2⟩ := dp.get (row_get? h)
  obtain ⟨k, x, m, e, _⟩ := item_parts (row_item_at hr _ ht)
  rw [e] at h2
  obtain ⟨b, rfl, q⟩ := dp_item h2
  refine ⟨b, k, m, h1, ?_⟩
  rw [e]
  exact q
theorem ap_int {Q : V → Hp → Prop} {x y : Int} {H : Hp} (e : x = y) (q : Q (.int y) H) : Q (.int x) H := e ▸ q
section
variable {P : Program} {w : World} {K : PySem.W.Frag} {mg : Str → Option Value} {base : Heap} {CW CR fW fR : Addr}
def spReach (K : PySem.W.Frag) : Sp := fun vs H Q _ => ∃ (a : Addr) (ds : List D), vs = [.ref a] ∧ Dp K H (.ref a) (.tuple ds) ∧ ringL ds = true ∧ ds.length ≤ 1000 ∧ ∀ (b : Bool) H', (b = true ↔ Reached ds) → Same H H' → Q (.bl b) H'
theorem scReach : FnScope ["ring", "first", "many", "behind", "row"] ["ring"] (defScope sReach) := ⟨rfl, rfl, rfl, by decide +kernel, rfl, by decide +kernel, by decide +kernel⟩
theorem ok_reach (R : Raw K mg "is_reached" sReach ["ring"]) (T : GT mg) (DR : Def P w K mg base (L2.CX P w) "runs" 7 ["ring"] (spRuns K CR)) (DG : Def P w K mg base CX0 "gap" 2 ["rows", "row"] (spGap K)) : Def P w K mg base (L2.CX P w) "is_reached" 8 ["ring"] (spReach K) := by
  obtain ⟨fR, dR, GR, gR, kR, bR⟩ := DR
  obtain ⟨fG, dG, GG, gG, kG, bG⟩ := DG
  refine R.def fun f fd F => F.okX scReach (fun vs H Q E h => ?_) (fun cdv A outer s H vs Q E hr h => ?_)
  · obtain ⟨a, ds, rfl, _⟩ := h
    rfl
  · obtain ⟨a, ds, rfl, hd, hring, hl, k⟩ := h
    have hr2 : Room 2 _ := hr.mono (by decide)
    refine ⟨_, pss_cons (ps_for (passes_of rfl) rfl (pi_list (pe_call (E := E) GR hr (by rfl) gR kR bR .nil (passes_call (takes_of rfl rfl rfl rfl) (fun _ _ _ _ z => z)) (pa_cons (pv 0) pa_nil))) (pg_tup rfl (pgs_cons (pg_name (i := 1) scReach.nd rfl (Or.inl rfl)) (pgs_cons (pg_name (i := 2) scReach.nd rfl (Or.inl rfl)) pgs_nil)))
        (pss_one (ps_for (passes_of rfl) rfl (pi_range1 (by rfl) T.range (pa_cons (pv 2) pa_nil)) (pg_name (i := 3) scReach.nd rfl (Or.inl rfl))
          (pss_cons (ps_set (i := 4) scReach.nd rfl (Or.inl rfl) (pe_op op_mod (pe_op op_add (pv 1) (pv 3)) (pe_callB call_len_seq (by rfl) T.len PySem.boot_len (pa_cons (pv 0) pa_nil))))
          (pss_one (ps_if (PW.pt (pw_and (pt_val (pe_callB call_isi (by rfl) T.isi (by decide +kernel) (pa_cons (pe_ix ix_tup (pv 0) (pv 4) (fun _ _ => rfl)) (pa_cons (pe_bltn (v := .ty "tuple") (by rfl) T.tup (by decide +kernel) rfl) pa_nil))))
            (pw_and1 (pt_cmpR op_gt (pe_call GG hr2 (by rfl) gG kG bG .nil pass0 (pa_cons (pv 0) (pa_cons (pv 4) pa_nil))) (pv 3) (nomark _)))))
            (pss_one (ps_ret pe_bl)) pss_nil))))))
      (pss_one (ps_ret pe_bl)), ?_⟩
    obtain ⟨hop, hpos⟩ := ring_open hring
    obtain ⟨a', xs, ea, sq, dp⟩ := dp_tup hd
    cases ea
    have hxl := dp.length
    refine ⟨_, rfl, _, _, rfl, hd, fun ds' e => by cases e; exact hl, fun ds' e _ p ys H1 hp h1 d1 s1 => ?_, fun z => ?_⟩
    · cases e
      have g1 : ∀ (i : Nat) (x : V), ys[i]? = some x → ∃ (q : Nat × Nat) (t : Addr), (runs ds)[i]? = some q ∧ x = V.ref t ∧ SqT K H1 t [.int q.1, .int q.2] := fun i x hx => by
        obtain ⟨d, hd, dx⟩ := dp_at d1 hx
        rw [List.getElem?_map] at hd
        obtain ⟨q, hq, rfl⟩ := Option.map_eq_some_iff.mp hd
        obtain ⟨t, vs, rfl, sq2, dp2⟩ := dp_tup dx
        cases dp2 with
        | cons x1 dp2 => cases dp2 with
          | cons x2 dp2 =>
            cases dp2; cases x1; cases x2
            exact ⟨q, t, hq, rfl, same_del.sqT sq2⟩
      have hyl : ys.length = (runs ds).length := by rw [d1.length, List.length_map]
      refine ⟨p, rfl, ⟨_, SqL.of h1⟩, for_list (xs := ys) (fun i σ H' => (∃ x1 x2 x3 x4, σ = [some (V.ref a), x1, x2, x3, x4]) ∧ Same H1 H' ∧ ∀ q ∈ (runs ds).take i, ∀ b : Nat, b < q.2 → isT (row ds (q.1 + b)) = true → gap ds (q.1 + b) ≤ b) ⟨⟨_, _, _, _, rfl⟩, Same.refl _, fun q hq => by rw [List.take_zero] at hq; cases hq⟩ (fun i σ H' _ h => h.2.1.seq (SqL.of h1)) ?_ ?_⟩
      · rintro i x σ H2 hx ⟨⟨x1, x2, x3, x4, rfl⟩, s2, good⟩
        obtain ⟨q, t, hq, rfl, sqt⟩ := g1 i x hx
        have hmem : q ∈ runs ds := List.mem_of_getElem? hq
        have s12 : Same H H2 := s1.trans s2
        have hq2 : q.2 < ds.length := by
          obtain ⟨_, _, _, h4⟩ := mem_runs.mp hmem
          obtain ⟨n, hn, isL⟩ := len_ex hpos hop (q.1 : Int)
          rw [h4, len_of isL]
          exact hn
        refine ⟨t, _, rfl, s2.sqT sqt, rfl, _, _, rfl, _, _, rfl, rfl, ?_⟩
        refine ⟨_, rfl, (q.2 : Int), rfl, by omega, by omega, for_range (n := q.2) (fun j σ H' => (∃ x3 x4, σ = [some (V.ref a), some (V.int q.1), some (V.int q.2), x3, x4]) ∧ Same H1 H' ∧ ∀ b : Nat, b < j → isT (row ds (q.1 + b)) = true → gap ds (q.1 + b) ≤ b) ⟨⟨_, _, rfl⟩, s2, fun b hb => absurd hb (Nat.not_lt_zero b)⟩ ?_ ?_⟩
        · rintro j σ H3 hj ⟨⟨x3, x4, rfl⟩, s3, good3⟩
          have s13 : Same H H3 := s1.trans s3
          refine ⟨_, rfl, _, rfl, _, _, rfl, rfl, _, rfl, a, xs, rfl, .inr (s13.sqT sq), _, _, rfl, rfl, (by show (0 : Int) < (xs.length : Nat); omega), ?_⟩
          have hn1 := Int.emod_lt_of_pos ((q.1 : Int) + j) (show (0 : Int) < ds.length by omega)
          have hn0 := Int.emod_nonneg ((q.1 : Int) + j) (show (ds.length : Int) ≠ 0 by omega)
          obtain ⟨r, er⟩ : ∃ r : Nat, ((q.1 : Int) + j) % (ds.length : Int) = r := ⟨(((q.1 : Int) + j) % (ds.length : Int)).toNat, by omega⟩
          have hr' : r < ds.length := by omega
          have erow : row ds (r : Int) = row ds (q.1 + j) := by rw [← er, row_mod]
          have egap : gap ds (r : Int) = gap ds (q.1 + j) := by rw [← er, gap_mod]
          have e4 : ((q.1 : Int) + (0 + (j : Int))) % (xs.length : Int) = r := by rw [Int.zero_add, hxl, er]
          show gName 4 (V.int (((q.1 : Int) + (0 + (j : Int))) % (xs.length : Int))) _ _ _
          rw [e4]
          obtain ⟨v, hv1, hv2⟩ := dp.get (row_get? hr')
          have hv3 := hv2.keep s13
          refine ⟨_, rfl, _, rfl, a, xs, _, v, rfl, rfl, s13.sqT sq, atI_nat hv1, v, _, _, _, isT (row ds (r : Int)), rfl, .ty _, dp_ty hv3, kit_ty (kit_tup hv3), _, rfl, ?_⟩
          have more : ¬ (isT (row ds (r : Int)) = true ∧ (j : Int) < gap ds r) → ∀ b : Nat, b < j + 1 → isT (row ds (q.1 + b)) = true → gap ds (q.1 + b) ≤ b := fun z b hb hb2 => by
            rcases Nat.lt_or_ge b j with y | y
            · exact good3 b y hb2
            · have ebj : b = j := by omega
              subst ebj
              rw [← erow] at hb2
              rw [← egap]
              exact Int.not_lt.mp fun y => z ⟨hb2, y⟩
          cases ht : isT (row ds (r : Int)) with
          | false => exact iteF ⟨⟨_, _, rfl⟩, s3, more (fun z => by rw [ht] at z; cases z.1)⟩
          | true =>
            obtain ⟨b, kk, c, hb1, hb2⟩ := ring_at dp hring hr' ht
            refine iteT ⟨_, rfl, _, rfl, a, b, xs, r, kk, _, c, rfl, .inr (s13.sqT sq), hb1, s13.sqT hb2, _, rfl, _, _, rfl, rfl, _, rfl, ?_⟩
            have eg : ((r : Int) - hashD (row ds (r : Int))) % (xs.length : Int) = gap ds r := by rw [hxl]; rfl
            rw [eg, Int.zero_add]
            refine ite2 (fun c1 => ?_) (fun c1 => ?_)
            · have hlt : (j : Int) < gap ds r := of_decide_eq_true c1
              refine k false H3 ⟨fun z => (nomatch z), fun z => ?_⟩ s13
              have := (reached_runs hpos hop).mp z q hmem j hj (by rw [← erow]; exact ht)
              rw [← egap] at this
              omega
            · exact ⟨⟨_, _, rfl⟩, s3, more (fun z => c1 (decide_eq_true z.2))⟩
        · rintro σ H3 ⟨⟨x3, x4, rfl⟩, s3, good3⟩
          refine ⟨⟨_, _, _, _, rfl⟩, s3, fun q' hq' => ?_⟩
          rw [take_more hq] at hq'
          rcases List.mem_append.mp hq' with z | z
          · exact good q' z
          · rw [List.mem_singleton.mp z]
            exact good3
      · rintro σ H2 ⟨⟨x1, x2, x3, x4, rfl⟩, s2, good⟩
        refine k true H2 ⟨fun _ => (reached_runs hpos hop).mpr fun q hq => ?_, fun _ => rfl⟩ (s1.trans s2)
        rw [hyl, List.take_length] at good
        exact good q hq
    · rw [show ringD (.tuple ds) = true from hring] at z
      cases z
end
end K40

namespace K40
open PySem PySem.Spec PyProof.Rows L2 Rg PySem.RingX
section
variable {P : Program} {w : World} {K : PySem.W.Frag} {mg : Str → Option Value} {base : Heap} {CW CR fW fR : Addr}
def spOrder (K : PySem.W.Frag) : Sp := fun vs H Q _ => ∃ (a : Addr) (ds : List D), vs = [.ref a] ∧ Dp K H (.ref a) (.tuple ds) ∧ ringL ds = true ∧ ds.length ≤ 1000 ∧ ∀ (b : Bool), (b = true ↔ InOrder ds) → Q (.bl b) H
theorem scOrder : FnScope ["ring", "row", "after"] ["ring"] (defScope sOrder) := ⟨rfl, rfl, rfl, by decide +kernel, rfl, by decide +kernel, by decide +kernel⟩
theorem ok_order (R : Raw K mg "is_in_order" sOrder ["ring"]) (T : GT mg) (DG : Def P w K mg base CX0 "gap" 2 ["rows", "row"] (spGap K)) : Def P w K mg base CX0 "is_in_order" 3 ["ring"] (spOrder K) := by
  obtain ⟨fG, dG, GG, gG, kG, bG⟩ := DG
  refine R.def fun f fd F => F.ok scOrder (fun vs H Q E h => ?_) (fun cdv A outer s H vs Q E hr h => ?_)
  · obtain ⟨a, ds, rfl, _⟩ := h
    rfl
  · obtain ⟨a, ds, rfl, hd, hring, hl, k⟩ := h
    refine ⟨_, pss_cons (ps_for PassesOwn.never rfl (pi_range1 (by rfl) T.range (pa_cons (pe_callB call_len_seq (by rfl) T.len PySem.boot_len (pa_cons (pv 0) pa_nil)) pa_nil)) (pg_name (i := 1) scOrder.nd rfl (Or.inl rfl))
          (pss_cons (ps_set (i := 2) scOrder.nd rfl (Or.inl rfl) (pe_op op_mod (pe_op op_add (pv 1) pe_int) (pe_callB call_len_seq (by rfl) T.len PySem.boot_len (pa_cons (pv 0) pa_nil))))
          (pss_one (ps_if (PW.pt (pw_and (pt_val (pe_callB call_isi (by rfl) T.isi (by decide +kernel) (pa_cons (pe_ix ix_tup (pv 0) (pv 1) (fun _ _ => rfl)) (pa_cons (pe_bltn (v := .ty "tuple") (by rfl) T.tup (by decide +kernel) rfl) pa_nil))))
            (pw_and1 (pt_val (pe_callB call_isi (by rfl) T.isi (by decide +kernel) (pa_cons (pe_ix ix_tup (pv 0) (pv 2) (fun _ _ => rfl)) (pa_cons (pe_bltn (v := .ty "tuple") (by rfl) T.tup (by decide +kernel) rfl) pa_nil)))))))
            (pss_one (ps_if (pt_cmpR op_gt (pe_call GG hr (by rfl) gG kG bG .nil pass0 (pa_cons (pv 0) (pa_cons (pv 2) pa_nil))) (pe_op op_add (pe_call GG hr (by rfl) gG kG bG .nil pass0 (pa_cons (pv 0) (pa_cons (pv 1) pa_nil))) pe_int) (nomark _)) (pss_one (ps_ret pe_bl)) pss_nil)) pss_nil))))
      (pss_one (ps_ret pe_bl)), ?_⟩
    obtain ⟨hop, hpos⟩ := ring_open hring
    obtain ⟨a', xs, ea, sq, dp⟩ := dp_tup hd
    cases ea
    have hxl := dp.length
    refine ⟨_, rfl, a, xs, rfl, .inr sq, _, rfl, by omega, by omega, for_range (n := xs.length) (fun i σ H' => (∃ x1 x2, σ = [some (V.ref a), x1, x2]) ∧ H' = H ∧ ∀ r : Nat, r < i → isT (row ds (r : Int)) = true → isT (row ds ((r : Int) + 1)) = true → gap ds ((r : Int) + 1) ≤ gap ds r + 1) ⟨⟨_, _, rfl⟩, rfl, fun r hr => absurd hr (Nat.not_lt_zero r)⟩ ?_ ?_⟩
    · rintro i σ H' hi ⟨⟨x1, x2, rfl⟩, rfl, good⟩
      refine ⟨_, rfl, _, _, rfl, rfl, _, rfl, a, xs, rfl, .inr sq, _, _, rfl, rfl, (by show (0 : Int) < (xs.length : Nat); omega), ?_⟩
      have hn1 := Int.emod_lt_of_pos ((i : Int) + 1) (show (0 : Int) < ds.length by omega)
      have hn0 := Int.emod_nonneg ((i : Int) + 1) (show (ds.length : Int) ≠ 0 by omega)
      obtain ⟨r, er⟩ : ∃ r : Nat, ((i : Int) + 1) % (ds.length : Int) = r := ⟨(((i : Int) + 1) % (ds.length : Int)).toNat, by omega⟩
      have hr' : r < ds.length := by omega
      have hi' : i < ds.length := by omega
      have erow : row ds (r : Int) = row ds ((i : Int) + 1) := by rw [← er, row_mod]
      have egap : gap ds (r : Int) = gap ds ((i : Int) + 1) := by rw [← er, gap_mod]
      have e4 : ((0 + (i : Int)) + 1) % (xs.length : Int) = r := by rw [Int.zero_add, hxl, er]
      show gName 2 (V.int (((0 + (i : Int)) + 1) % (xs.length : Int))) _ _ _
      rw [e4]
      have more : ¬ ((isT (row ds (i : Int)) = true ∧ isT (row ds (r : Int)) = true) ∧ gap ds i + 1 < gap ds r) → ∀ b : Nat, b < i + 1 → isT (row ds (b : Int)) = true → isT (row ds ((b : Int) + 1)) = true → gap ds ((b : Int) + 1) ≤ gap ds b + 1 := fun z b hb hb1 hb2 => by
        rcases Nat.lt_or_ge b i with y | y
        · exact good b y hb1 hb2
        · have ebj : b = i := by omega
          subst ebj
          rw [← erow] at hb2
          rw [← egap]
          exact Int.not_lt.mp fun y => z ⟨⟨hb1, hb2⟩, y⟩
      obtain ⟨v, hv1, hv2⟩ := dp.get (row_get? hi')
      obtain ⟨u, hu1, hu2⟩ := dp.get (row_get? hr')
      have hv0 : atI xs (0 + (i : Int)) = some v := by rw [Int.zero_add]; exact atI_nat hv1
      refine ⟨_, rfl, _, rfl, a, xs, _, v, rfl, rfl, sq, hv0, v, _, _, _, isT (row ds (i : Int)), rfl, .ty _, dp_ty hv2, kit_ty (kit_tup hv2), _, rfl, ?_⟩
      cases ht : isT (row ds (i : Int)) with
      | false => exact iteF ⟨⟨_, _, rfl⟩, rfl, more (fun z => by rw [ht] at z; cases z.1.1)⟩
      | true =>
        refine iteT ⟨_, rfl, _, rfl, a, xs, _, u, rfl, rfl, sq, atI_nat hu1, u, _, _, _, isT (row ds (r : Int)), rfl, .ty _, dp_ty hu2, kit_ty (kit_tup hu2), _, rfl, ?_⟩
        cases hs : isT (row ds (r : Int)) with
        | false => exact iteF ⟨⟨_, _, rfl⟩, rfl, more (fun z => by rw [hs] at z; cases z.1.2)⟩
        | true =>
          obtain ⟨b, kk, c, hb1, hb2⟩ := ring_at dp hring hr' hs
          obtain ⟨b', kk', c', hb1', hb2'⟩ := ring_at dp hring hi' ht
          have e0 : V.int (0 + (i : Int)) = V.int (i : Int) := by rw [Int.zero_add]
          refine iteT ⟨_, rfl, _, rfl, a, b, xs, r, kk, _, c, rfl, .inr sq, hb1, hb2, _, rfl, _, rfl, a, b', xs, i, kk', _, c', congrArg (fun z => [V.ref a, z]) e0, .inr sq, hb1', hb2', _, _, rfl, rfl, _, _, rfl, rfl, _, rfl, ?_⟩
          have eg : ((r : Int) - hashD (row ds (r : Int))) % (xs.length : Int) = gap ds r := by rw [hxl]; rfl
          have eg2 : ((i : Int) - hashD (row ds (i : Int))) % (xs.length : Int) = gap ds i := by rw [hxl]; rfl
          rw [eg, eg2]
          refine ite2 (fun c1 => ?_) (fun c1 => ?_)
          · have hlt : gap ds i + 1 < gap ds r := of_decide_eq_true c1
            refine k false ⟨fun z => (nomatch z), fun z => ?_⟩
            have := z (i : Int) ht (by rw [← erow]; exact hs)
            rw [← egap] at this
            omega
          · exact ⟨⟨_, _, rfl⟩, rfl, more (fun z => c1 (decide_eq_true z.2))⟩
    · rintro σ H' ⟨⟨x1, x2, rfl⟩, rfl, good⟩
      refine k true ⟨fun _ => (inOrder_nat hpos).mpr fun r hr => ?_, fun _ => rfl⟩
      exact good r (by omega)
end
end K40

namespace K40
open PySem PySem.Spec PyProof.Rows L2 Rg PySem.RingX
section
variable {P : Program} {w : World} {K : PySem.W.Frag} {mg : Str → Option Value} {base : Heap} {CW CR fW fR : Addr}
theorem noStone_any {ds : List D} (hm : 0 < ds.length) : NoStone ds ↔ (ds.any fun z => PyData.eqv z (.str "stone")) = false := by
  constructor
  · intro h
    rw [List.any_eq_false]
    intro d hd
    obtain ⟨i, hi, e⟩ := List.getElem_of_mem hd
    have := h (i : Int)
    rw [row_nat hi, e] at this
    rw [eqv_stone, this]
    exact Bool.false_ne_true
  · intro h r
    rw [List.any_eq_false] at h
    have := h _ (row_mem hm r)
    rw [eqv_stone] at this
    simpa using this
theorem way_str {d : D} (h : wayD d = true) : ∃ x, d = .str x := by cases d <;> first | exact ⟨_, rfl⟩ | cases h
def spLawful (K : PySem.W.Frag) (CW CR : Addr) : Sp := fun vs H Q E => ∃ (v u : V) (d e : D), vs = [v, u] ∧ Dp K H v d ∧ Dp K H u e ∧ Short d ∧ Short e ∧
  (∀ ds x, d = .tuple ds → ringL ds = true → e = .str x → wayD e = true → ∀ (b : Bool) H', (b = true ↔ Lawful ds x) → Same H H' → Q (.bl b) H') ∧
  (ringD d = false → Rz CR "ring" v H E) ∧ (ringD d = true → wayD e = false → Rz CW "way" u H E)
theorem scLawful : FnScope ["ring", "way"] ["ring", "way"] (defScope sLawful) := ⟨rfl, rfl, rfl, by decide +kernel, rfl, by decide +kernel, by decide +kernel⟩
theorem ok_lawful (R : Raw K mg "is_lawful" sLawful ["ring", "way"]) (T : GT mg) (hS : ∃ t, mg "STONE" = some (.str "stone" t)) (DC : Def P w K mg base (L2.CX P w) "check_ring" 6 ["ring"] (spCk K CR "ring" ringD)) (DW : Def P w K mg base (L2.CX P w) "check_way" 2 ["way"] (spCk K CW "way" wayD))
    (DR : Def P w K mg base (L2.CX P w) "is_reached" 8 ["ring"] (spReach K)) (DO : Def P w K mg base CX0 "is_in_order" 3 ["ring"] (spOrder K)) : Def P w K mg base (L2.CX P w) "is_lawful" 9 ["ring", "way"] (spLawful K CW CR) := by
  obtain ⟨tS, gS⟩ := hS
  obtain ⟨fC, dC, GC, gC, kC, bC⟩ := DC
  obtain ⟨fW, dW, GW, gW, kW, bW⟩ := DW
  obtain ⟨fR, dR, GR, gR, kR, bR⟩ := DR
  obtain ⟨fO, dO, GO, gO, kO, bO⟩ := DO
  refine R.def fun f fd F => F.okX scLawful (fun vs H Q E h => ?_) (fun cdv A outer s H vs Q E hr h => ?_)
  · obtain ⟨v, u, d, e, rfl, _⟩ := h
    rfl
  · obtain ⟨v, u, d, e, rfl, hd, he, hS1, hS2, k1, k2, k3⟩ := h
    have hr6 : Room 6 _ := hr.mono (by decide)
    have hr2 : Room 2 _ := hr.mono (by decide)
    have hr3 : Room 3 _ := hr.mono (by decide)
    have hu : (A.deeper (envOfC "is_lawful" (defScope sLawful) s.heap.objs.size f cdv)).units + 65 < cLine := by have := hr.un; omega
    refine ⟨_, pss_cons (ps_expr (pe_call (E := E) GC hr6 (by rfl) gC kC bC .nil (passes_call (takes_of rfl rfl rfl rfl) (fun _ _ _ _ z => z)) (pa_cons (pv 0) pa_nil)))
      (pss_cons (ps_expr (pe_call (E := E) GW hr2 (by rfl) gW kW bW .nil (passes_call (takes_of rfl rfl rfl rfl) (fun _ _ _ _ z => z)) (pa_cons (pv 1) pa_nil)))
      (pss_cons (ps_if (pt_cmpR op_eq (pv 1) pe_str (nomark _)) (pss_one (ps_ret (pe_call (E := E) GR hr (by rfl) gR kR bR .nil (passes_call (takes_of rfl rfl rfl rfl) (fun _ _ _ _ z => z)) (pa_cons (pv 0) pa_nil)))) pss_nil)
      (pss_cons (ps_if (PW.pt (pw_or (pt_cmpR (op_inDT hu) (pe_glob (v := .str "stone") (by rfl) gS ⟨_, rfl⟩) (pv 0) (by rfl)) (pw_or1 (pt_not (pt_val (pe_call (E := E) GR hr (by rfl) gR kR bR .nil (passes_call (takes_of rfl rfl rfl rfl) (fun _ _ _ _ z => z)) (pa_cons (pv 0) pa_nil)))))))
        (pss_one (ps_ret pe_bl)) pss_nil)
      (pss_one (ps_ret (pe_or (pe_cmpR op_eq (pv 1) pe_str (nomark _)) (pe_one (pe_call GO hr3 (by rfl) gO kO bO .nil pass0 (pa_cons (pv 0) pa_nil))))))))), ?_⟩
    refine ⟨_, rfl, v, d, rfl, hd, hS1, fun rt H1 s1 => ?_, fun rf => k2 rf⟩
    refine ⟨_, rfl, u, e, rfl, he.keep s1, hS2, fun wt H2 s2 => ?_, fun wf => (k3 rt wf).keep s1⟩
    obtain ⟨ds, rfl, hring⟩ := ring_tup rt
    obtain ⟨hop, hpos⟩ := ring_open hring
    obtain ⟨x, rfl⟩ := way_str wt
    have hd2 := hd.keep (s1.trans s2)
    have s12 := s1.trans s2
    have hl := hS1 ds rfl
    obtain ⟨a, xs, rfl, sq, dp⟩ := dp_tup hd
    have hu2 := he.keep s12
    cases hu2
    refine ⟨_, rfl, rfl, _, rfl, ?_⟩
    have kk := fun b H' => k1 ds x rfl hring rfl wt b H'
    by_cases c1 : x = "stones"
    · refine ifT (decide_eq_true (congrArg V.str c1)) ?_
      refine ⟨_, rfl, a, ds, rfl, hd2, hring, hl, fun b H3 hb s3 => ?_⟩
      exact kk b H3 (hb.trans ⟨fun z => ⟨fun _ => z, fun z2 => absurd c1 z2⟩, fun z => z.1 c1⟩) (s12.trans s3)
    · refine ifF (decide_eq_false fun z => c1 (V.str.inj z)) ?_
      refine ⟨_, rfl, .str "stone", ds, .str _, hd2, (by kernel_rfl), ring_shape hring, _, rfl, ?_⟩
      cases hst : (ds.any fun z => PyData.eqv z (.str "stone")) with
      | true =>
        refine iteT ?_
        refine kk false H2 ⟨fun z => (nomatch z), fun z => ?_⟩ s12
        have := (noStone_any hpos).mp (z.2 c1).1
        rw [hst] at this
        cases this
      | false =>
        have ns : NoStone ds := (noStone_any hpos).mpr hst
        refine iteF ⟨_, rfl, a, ds, rfl, hd2, hring, hl, fun b H3 hb s3 => ⟨_, rfl, ?_⟩⟩
        have s13 := s12.trans s3
        cases b with
        | false =>
          refine iteT ?_
          refine kk false H3 ⟨fun z => (nomatch z), fun z => ?_⟩ s13
          exact hb.mpr (z.2 c1).2.1
        | true =>
          refine iteF ?_
          have hR : Reached ds := hb.mp rfl
          refine ⟨_, rfl, rfl, _, rfl, ?_⟩
          by_cases c2 : x = "plain"
          · refine ifT (decide_eq_true (congrArg V.str c2)) ?_
            exact kk true H3 ⟨fun _ => ⟨fun z => absurd z c1, fun _ => ⟨ns, hR, fun z => absurd c2 z⟩⟩, fun _ => rfl⟩ s13
          · refine ifF (decide_eq_false fun z => c2 (V.str.inj z)) ?_
            refine ⟨_, rfl, a, ds, rfl, hd2.keep s3, hring, hl, fun b2 hb2 => ?_⟩
            exact kk b2 H3 (hb2.trans ⟨fun z => ⟨fun z => absurd z c1, fun _ => ⟨ns, hR, fun _ => z⟩⟩, fun z => (z.2 c1).2.2 c2⟩) s13
end
end K40

/-! ## Tuples whose methods are called; how often None stands in rows -/
namespace L2
open PySem PySem.Spec PyProof.Rows
/-- a tuple that is known to be plain -/
def PlT (K : PySem.W.Frag) (H : Hp) (a : Addr) : Prop := (∃ o u, H a = some (.frz o u) ∧ o.cls = .type "tuple" ∧ o.dict = none) ∨ ∃ o, K.lookup a = some o ∧ o.cls = .type "tuple" ∧ o.dict = none
theorem PlT.keep {K : PySem.W.Frag} {H H' : Hp} {a : Addr} (h : PlT K H a) (s : Same H H') : PlT K H' a := by
  rcases h with ⟨o, u, h1, h2⟩ | h
  · exact .inl ⟨o, u, s _ _ h1, h2⟩
  · exact .inr h
def tTupF (t : TA) : TE := fun σ H Q => t σ H fun xs H1 => xs.length ≤ sizeLine ∧ ∀ p o, H1 p = none → o.cls = .type "tuple" → o.dict = none → Q (.ref p) (upd H1 p (.frz o (.tup xs)))
section
variable {X : Cx}
theorem pe_tupF {es : List Expr} {t : TA} {x1 : _} {pos : Pos} (h : PA X es t) : PE X (.Tuple es x1 pos) (tTupF t) := by
  refine ⟨fun pins s σ H Q I hq => ?_⟩
  refine wpAny_Tuple_spliced (thn (h.run pos pins s σ H _ I hq) fun us s1 ⟨xs, H1, I1, r, z, q⟩ => ⟨by rw [← r.length]; exact z, ?_⟩)
  have hf : H1 s1.heap.objs.size = none := I1.hok.fresh (Nat.le_refl _)
  have hp := Heap.get?_push_size s1.heap (o := { cls := .type "tuple", data := .seq us.toArray }) rfl
  refine ⟨.ref s1.heap.objs.size, upd H1 s1.heap.objs.size (.frz { cls := .type "tuple", data := .seq us.toArray } (.tup xs)), I1.laid (t' := s1.toks) (fun b u e => Heap.get?_push_of_some _ e) (Nat.le_refl _) ?_, rfl, q _ _ hf rfl rfl⟩
  exact ⟨hp, z, us, r, ⟨_, hp, rfl, _, rfl⟩⟩
def kTupF (K : PySem.W.Frag) (x : V) (H : Hp) (Q : VK) : Prop := ∃ p xs, x = .ref p ∧ SqL K H p xs ∧ ∀ q o, H q = none → o.cls = .type "tuple" → o.dict = none → Q (.ref q) (upd H q (.frz o (.tup xs)))
theorem rl_tupleF (pins : List (Addr × Obj)) (s : Shared) (σ : St) (H : Hp) (x : V) (v : Value) (Q : VK) (I : Inv X pins σ H s) (r : RelV x v) (h : kTupF X.K x H Q) :
    wpAny (model X.prog X.w) X.A (call (.type "tuple") [v]) (EP X pins σ Q) X.xe s := by
  obtain ⟨p, xs, rfl, hs, q⟩ := h
  obtain rfl : v = .ref p := r
  obtain ⟨its, rv, pl, hz⟩ := I.list hs
  refine call_tuple_list pl.isList (fun h' hk => ?_) (by rw [List.size_toArray, ← rv.length]; exact hz)
  have I1 : Inv X pins σ H { s with heap := h' } := I.kept (t' := s.toks) hk
  have hp := Heap.get?_push_size h' (o := { cls := .type "tuple", data := .seq its.toArray }) rfl
  have I2 : Inv X pins σ (upd H h'.objs.size (.frz { cls := .type "tuple", data := .seq its.toArray } (.tup xs))) { s with heap := h'.push { cls := .type "tuple", data := .seq its.toArray } } :=
    I1.laid (t' := s.toks) (fun b o e => Heap.get?_push_of_some _ e) (Nat.le_refl _) ⟨hp, hz, its, rv, IsTup.new _ _⟩
  exact ⟨.ref h'.objs.size, _, I2, rfl, q _ _ (I1.hok.fresh (Nat.le_refl _)) rfl rfl⟩
theorem pe_tupleOfF {a : Expr} {ta : TE} {p pos : Pos} (hg : Gl X "tuple") (hm : X.mg "tuple" = none) (ha : PE X a ta) (na : starEach [a] X.env = (false, eval a X.env) :: starEach [] X.env := by rfl) :
    PE X (.Call (.Name "tuple" p) [a] [] pos) (tThen ta (kTupF X.K)) := by
  refine ⟨fun pins s σ H Q I h => ?_⟩
  exact Call_ (ld_blt I hg hm boot_tuple (PyProof.Rows.callWith_type1 (one_arg ha I h (fun v s2 x H2 I2 r q => rl_tupleF pins s2 σ H2 x v Q I2 r q) na) na))
theorem plT_is {pins : List (Addr × Obj)} {σ : St} {H : Hp} {s : Shared} {a : Addr} (I : Inv X pins σ H s) (h : PlT X.K H a) : s.TypeIs (.ref a) "tuple" ∧ ∀ b, (Value.ref a) = .ref b → ∃ ob, s.heap.get? b = some ob ∧ ob.dict = none := by
  have ob : ∃ o, s.heap.get? a = some o ∧ o.cls = .type "tuple" ∧ o.dict = none := by
    rcases h with ⟨o, u, h1, h2, h3⟩ | ⟨o, h1, h2, h3⟩
    · obtain ⟨e, _⟩ := (show ObjOk X.prog X.w H s.heap a (.frz o u) from I.hok a _ h1)
      exact ⟨o, e, h2, h3⟩
    · exact ⟨o, I.kIn a o h1, h2, h3⟩
  obtain ⟨o, h1, h2, h3⟩ := ob
  exact ⟨⟨o, h1, h2⟩, fun b e => by cases e; exact ⟨o, h1, h3⟩⟩
def tBMT (K : PySem.W.Frag) (r : V → List V → Hp → VK → Prop) (to : TE) (t : TA) : TE := fun σ H Q => to σ H fun x H1 => (∃ a, x = .ref a ∧ PlT K H1 a) ∧ t σ H1 fun xs H2 => r x xs H2 Q
theorem pe_bmT {id : String} {name : Str} {apos cpos : Pos} {r : V → List V → Hp → VK → Prop} {o e : Expr} {es : List Expr} {to : TE} {t : TA} (slot : Slot "tuple" name id) (hty : typeOf (.builtin id) = pure (.type "method_descriptor")) (hm : MtR X id r) (ho : PE X o to) (ha : PA X (e :: es) t)
    (hbase : attributeBase o name X.env (eval o X.env) = eval o X.env := by rfl)
    (hfew : ((backTo cpos (starEach (e :: es) X.env)).all (fun x => !x.1) && (backToKw cpos (keywordEach [] X.env)).all (fun x => x.1.isSome)
      && decide ((e :: es).length + ([] : List Keyword).length + (if ([] : List Keyword).isEmpty then 0 else 1) < 30)) = true := by rfl)
    (hline : (apos.endLine == cpos.line) = true := by rfl) (hs : starEach (e :: es) X.env = (false, eval e X.env) :: starEach es X.env := by rfl) (hplain : (backTo cpos (starEach es X.env)).any (·.1) = false := by rfl) :
    PE X (.Call (.Attribute o name apos) (e :: es) [] cpos) (tBMT X.K r to t) := by
  refine ⟨fun pins s σ H Q I h => ?_⟩
  refine wpAny_Call_method_late hbase hfew hline rfl (thn (ho.run pins s σ H _ I h) fun v s1 ⟨x, H1, I1, r1, ty, q1⟩ => ?_)
  obtain ⟨a, rfl, pl⟩ := ty
  obtain rfl : v = .ref a := r1
  obtain ⟨h1, h2⟩ := plT_is I1 pl
  refine ⟨"tuple", id, PySem.F.plainAttrs_tuple, slot, hty, h1, h2, ?_⟩
  have hA := ha.run cpos pins s1 σ H1 _ I1 q1
  rw [hs] at hA ⊢
  refine Calls.callWith_builtin (by show (false || (backTo cpos (starEach es X.env)).any (·.1)) = false; rw [hplain] <;> rfl) (Calls.evalArgs_plain ?_)
  exact thn hA fun us s2 ⟨vs, H2, I2, r2, q2⟩ => hm pins s2 σ H2 (.ref a) vs _ us Q I2 rfl r2 q2
/-- not (a if t else b), as a test -/
def tIfT (t ta tb : TT) : TT := fun σ H Q => t σ H fun c H1 => if c = true then ta σ H1 Q else tb σ H1 Q
theorem pt_ifExp {c a b : Expr} {pos : Pos} {tA ta tb : TT} (hc : PT X c tA) (ha : PT X a ta) (hb : PT X b tb) : PT X (.IfExp c a b pos) (tIfT tA ta tb) := by
  refine ⟨fun pins s σ H Q I h => ?_⟩
  refine isTrue_IfExp (thn (hc.run pins s σ H _ I h) fun d s1 ⟨H1, I1, q1⟩ => ?_)
  cases d with
  | true => exact ha.run pins s1 σ H1 Q I1 q1
  | false => exact hb.run pins s1 σ H1 Q I1 q1
/-- how many of the rows are None -/
def rCntT (K : PySem.W.Frag) : V → List V → Hp → VK → Prop := fun x xs H Q => ∃ p ds, x = .ref p ∧ xs = [.non] ∧ Dp K H (.ref p) (.tuple ds) ∧ PyData.plainAll ds = true ∧ Q (.int ((ds.countP Rg.emp : Nat) : Int)) H
def rCntL (K : PySem.W.Frag) : V → List V → Hp → VK → Prop := fun x xs H Q => ∃ p ds, x = .ref p ∧ xs = [.non] ∧ Dp K H (.ref p) (.list ds) ∧ PyData.plainAll ds = true ∧ Q (.int ((ds.countP Rg.emp : Nat) : Int)) H
theorem eqv_emp : (fun y => PyData.eqv y .none) = Rg.emp := by
  funext y
  cases y <;> simp [PyData.eqv, Rg.emp]
theorem mt_tcountN (hu : X.A.units + 1 < cLine) : MtR X "tuple.count" (rCntT X.K) := by
  intro pins s σ H x xs v us Q I rx rxs h
  obtain ⟨p, ds, rfl, rfl, hd, hp, q⟩ := h
  obtain rfl : v = .ref p := rx
  obtain ⟨u, rfl, ru⟩ := rxs.one
  obtain rfl : u = Value.none := ru
  cases hd with
  | tup sq ha =>
    obtain ⟨its, rv, pl, hz⟩ := I.tuple sq
    obtain ⟨as, ra⟩ := Dp.readsAll I ds _ its ha rv
    refine SeqAt.count_tuple_data (d := .none) (vs := its.toArray) (show s.heap.IsTuple p its.toArray from pl) (by simpa using ra) Reads.none hp rfl (by simp [PyData.depth]; exact hu) ?_
    rw [eqv_emp]
    exact ⟨.int ((ds.countP Rg.emp : Nat) : Int), H, I.tok _, ⟨_, rfl⟩, q⟩
theorem mt_lcountN (hu : X.A.units + 1 < cLine) : MtR X "list.count" (rCntL X.K) := by
  intro pins s σ H x xs v us Q I rx rxs h
  obtain ⟨p, ds, rfl, rfl, hd, hp, q⟩ := h
  obtain rfl : v = .ref p := rx
  obtain ⟨u, rfl, ru⟩ := rxs.one
  obtain rfl : u = Value.none := ru
  cases hd with
  | lst sq ha =>
    obtain ⟨its, rv, pl, hz⟩ := I.list sq
    obtain ⟨as, ra⟩ := Dp.readsAll I ds _ its ha rv
    refine SeqAt.count_list_data (d := .none) (vs := its.toArray) pl.isList (by simpa using ra) Reads.none hp rfl (by simp [PyData.depth]; exact hu) ?_
    rw [eqv_emp]
    exact ⟨.int ((ds.countP Rg.emp : Nat) : Int), H, I.tok _, ⟨_, rfl⟩, q⟩
end
end L2
namespace K40
open PySem PySem.Spec PyProof.Rows L2 Rg PySem.RingX
section
variable {P : Program} {w : World} {K : PySem.W.Frag} {mg : Str → Option Value} {base : Heap}
/-- home of a pair or a triple -/
def spHome2 (K : PySem.W.Frag) : Sp := fun vs H Q _ => ∃ (a : Addr) (v : V) (x m : Int) (r : List V), vs = [.ref a, .int m] ∧ SqT K H a (v :: .int x :: r) ∧ 0 < m ∧ Q (.int (x % m)) H
theorem ok_home2 (R : Raw K mg "home" s_home ["item", "many"]) : Def P w K mg base CX0 "home" 1 ["item", "many"] (spHome2 K) := by
  refine R.def fun f fd F => F.ok scHome (fun vs H Q E h => ?_) (fun cdv A outer s H vs Q E hr h => ?_)
  · obtain ⟨a, v, x, m, r, rfl, _⟩ := h
    rfl
  · obtain ⟨a, v, x, m, r, rfl, sq, hm, q⟩ := h
    refine ⟨_, pss_one (ps_ret (pe_op op_mod (pe_ix ix_tup (pv 0) pe_int (fun _ _ => rfl)) (pv 1))), ?_⟩
    exact ⟨_, rfl, a, _, 1, .int x, rfl, rfl, sq, atI_nat (j := 1) rfl, _, rfl, _, _, rfl, rfl, hm, q⟩
end
end K40

namespace K40
open PySem PySem.Spec PyProof.Rows L2 Rg PySem.RingX
open Fm hiding D
theorem plain_item {d : D} (h : itemD d = true) : d.plain = true := by
  obtain ⟨k, x, m, rfl, _⟩ := item_parts h
  rfl
theorem plain_row {d : D} (h : rowD d = true) : d.plain = true := by
  unfold rowD at h
  simp only [Bool.or_eq_true] at h
  rcases h with (h | h) | h
  · rw [emp_none.mp h]; rfl
  · cases d <;> first | rfl | cases h
  · exact plain_item h
theorem plain_rows : ∀ {ds : List D}, ds.all rowD = true → PyData.plainAll ds = true
  | [], _ => rfl
  | d :: r, h => by
    rw [List.all_cons, Bool.and_eq_true] at h
    show (d.plain && PyData.plainAll r) = true
    rw [plain_row h.1, plain_rows h.2]; rfl
def putSet (k : Str) : Bool := inV (.str k) [.str "put", .str "set"]
/-- a ring that a code can be played on -/
def PlayB (k x : Str) (d : D) : Prop := ∃ ds, d = .tuple ds ∧ ringL ds = true ∧ Lawful ds x ∧ (putSet k = true → 2 ≤ ds.countP emp)
section
variable {P : Program} {w : World} {K : PySem.W.Frag} {mg : Str → Option Value} {base : Heap}
def spCanP (K : PySem.W.Frag) (C CC : Addr) : Sp := fun vs H Q _ => ∃ (c : Addr) (k x text : Str) (Ls : List LineM) (v : V) (d : D), vs = [.ref c, v] ∧ CodeP K C CC H c k x text Ls ∧ wayM x = true ∧ Dp K H v d ∧ Short d ∧
  (∀ a, v = .ref a → putSet k = true → ringD d = true → PlT K H a) ∧ ∀ (b : Bool) H', (b = true ↔ PlayB k x d) → Same H H' → Q (.bl b) H'
theorem scCanP : FnScope ["code", "ring"] ["code", "ring"] (defScope s_can_be_played) := ⟨rfl, rfl, rfl, by decide +kernel, rfl, by decide +kernel, by decide +kernel⟩
theorem ok_canp {C CC CW CR : Addr} (R : Raw K mg "can_be_played" s_can_be_played ["code", "ring"]) (TT : ClsT K mg CC "Code" codeNames) (DR : Def P w K mg base CX0 "is_ring" 5 ["value"] (spS K ringD)) (DL : Def P w K mg base (L2.CX P w) "is_lawful" 9 ["ring", "way"] (spLawful K CW CR)) :
    Def P w K mg base (L2.CX P w) "can_be_played" 10 ["code", "ring"] (spCanP K C CC) := by
  obtain ⟨fR, dR, GR, gR, kR, bR⟩ := DR
  obtain ⟨fL, dL, GL, gL, kL, bL⟩ := DL
  refine R.def fun f fd F => F.okX scCanP (fun vs H Q E h => ?_) (fun cdv A outer s H vs Q E hr h => ?_)
  · obtain ⟨c, k, x, text, Ls, v, d, rfl, _⟩ := h
    rfl
  · obtain ⟨c, k, x, text, Ls, v, d, rfl, cp, wx, dv, sd, pl, q⟩ := h
    have hr5 : Room 5 _ := hr.mono (by decide)
    have hu := hu_of hr5
    refine ⟨_, pss_cons (ps_if (PW.pt (pw_or (pt_not (pt_val (pe_call GR hr5 (by rfl) gR kR bR .nil pass0 (pa_cons (pv 1) pa_nil)))) (pw_or1 (pt_not (pt_val (pe_call (E := E) GL hr (by rfl) gL kL bL .nil (passes_call (takes_of rfl rfl rfl rfl) (fun _ _ _ _ z => z)) (pa_cons (pv 1) (pa_cons (pe_fld (pv 0) rfl) pa_nil)))))))) (pss_one (ps_ret pe_bl)) pss_nil)
      (pss_one (ps_ret (pe_or (pe_cmpR op_notIn_seq (pe_fld (pv 0) rfl) (pe_tup (pa_cons pe_str (pa_cons pe_str pa_nil))) (by rfl)) (pe_one (pe_cmpR op_ge (pe_bmT PySem.F.slot_tuple_count PySem.F.type_tuple_count (mt_tcountN hu) (pv 1) (pa_cons pe_non pa_nil)) pe_int (nomark _)))))), ?_⟩
    obtain ⟨dx, tt, tp, ps, h1, h2, h3⟩ := id cp
    refine ⟨_, rfl, v, d, rfl, dv, sd, fun H1 s1 => ?_⟩
    cases hd : ringD d with
    | false =>
      refine ⟨_, rfl, iteT (q false H1 ⟨fun z => (nomatch z), fun ⟨ds, e, hr, _⟩ => ?_⟩ s1)⟩
      rw [e] at hd
      rw [show ringD (.tuple ds) = ringL ds from rfl, hr] at hd
      cases hd
    | true =>
      obtain ⟨ds, rfl, hring⟩ := ring_tup hd
      refine ⟨_, rfl, iteF ⟨_, rfl, _, rfl, c, CC, dx, _, _, rfl, s1 _ _ h1, TT.cl, TT.no _ (by simp [codeNames]), cd_way .., v, .str x, .tuple ds, .str x, rfl, dv.keep s1, .str x, sd, (fun ds z => (nomatch z)), fun ds2 x2 e1 hr2 e2 hw2 b H2 hb s2 => ?_, (fun z => by rw [hd] at z; cases z), fun _ z => by rw [show wayD (.str x) = wayM x from rfl, wx] at z; cases z⟩⟩
      cases e1
      cases e2
      cases b with
      | false => exact ⟨_, rfl, iteT (q false H2 ⟨fun z => (nomatch z), fun ⟨ds, e, _, hl, _⟩ => by cases e; exact (nomatch hb.mpr hl)⟩ (s1.trans s2))⟩
      | true =>
        refine ⟨_, rfl, iteF ?_⟩
        have hl := hb.mp rfl
        refine ⟨_, rfl, c, CC, dx, _, _, rfl, s2 _ _ (s1 _ _ h1), TT.cl, TT.no _ (by simp [codeNames]), cd_kind .., ?_⟩
        refine ⟨(by show 2 ≤ sizeLine; decide), fun a ha => ?_⟩
        have s3 := (s1.trans s2).trans (@same_upd _ a (.tup [V.str "put", V.str "set"]) ha)
        refine ⟨a, _, rfl, .inr (SqT.of upd_same), rfl, by kernel_rfl, _, rfl, ?_⟩
        show if (!putSet k) = true then _ else _
        cases hk : putSet k with
        | false => exact iteT (q true _ ⟨fun _ => ⟨ds, rfl, hring, hl, fun z => by rw [hk] at z; cases z⟩, fun _ => rfl⟩ s3)
        | true =>
          obtain ⟨b, vs, rfl, _, _⟩ := dp_tup dv
          refine iteF ⟨_, rfl, ⟨b, rfl, (pl b rfl hk hd).keep s3⟩, ?_⟩
          refine ⟨b, ds, rfl, rfl, dv.keep s3, plain_rows (ring_rows hring), ?_⟩
          refine ⟨_, _, rfl, rfl, q _ _ ⟨fun z => ⟨ds, rfl, hring, hl, fun _ => by have := of_decide_eq_true z; omega⟩, fun ⟨ds2, e, _, _, h⟩ => ?_⟩ s3⟩
          cases e
          exact decide_eq_true (by have := h hk; omega)
end
end K40

namespace K40
open PySem PySem.Spec PyProof.Rows L2 Rg PySem.RingX
open Fm hiding D
def hash2 : D → Int | .tuple (_ :: .int h :: _) => h | _ => 0
/-- the hashes of the items with a key -/
def there (ds : List D) (key : Int) : List Int := ((ds.filter isT).filter fun d => decide (keyD d = key)).map hashD
/-- what can be handed -/
def HandB (k : Str) (ds : List D) (e : D) : Bool :=
  if k = "take" then (match e with | .int i => decide (0 ≤ i) && (decide (i < ds.length) && isT (row ds i)) | _ => false)
  else (if putSet k = true then itemD e else Rg.prD e) && ((there ds (keyD e)).isEmpty || (decide (k ≠ "put") && decide ((there ds (keyD e)).head? = some (hash2 e))))
theorem pair_parts {d : D} (h : Rg.prD d = true) : ∃ k x, d = .tuple [.int k, .int x] ∧ 0 ≤ x := by
  unfold Rg.prD at h
  split at h
  · rename_i k x
    exact ⟨k, x, rfl, of_decide_eq_true h⟩
  · cases h
/-- a pair or a triple that is handed -/
theorem handed_parts {K : PySem.W.Frag} {H : Hp} {v : V} {e : D} {k : Str} (h : (if putSet k = true then itemD e else Rg.prD e) = true) (d : Dp K H v e) : ∃ (a : Addr) (r : List V), v = .ref a ∧ SqT K H a (.int (keyD e) :: .int (hash2 e) :: r) := by
  have go : itemD e = true ∨ Rg.prD e = true := by
    split at h
    · exact .inl h
    · exact .inr h
  rcases go with h | h
  · obtain ⟨k, x, m, rfl, _⟩ := item_parts h
    obtain ⟨a, rfl, q⟩ := dp_item d
    exact ⟨a, [.int m], rfl, q⟩
  · obtain ⟨k, x, rfl, _⟩ := pair_parts h
    obtain ⟨a, vs, rfl, q, r⟩ := dp_tup d
    cases r with
    | cons h1 r => cases r with
      | cons h2 r =>
        cases r; cases h1; cases h2
        exact ⟨a, [], rfl, q⟩
section
variable {P : Program} {w : World} {K : PySem.W.Frag} {mg : Str → Option Value} {base : Heap}
def spCanH (K : PySem.W.Frag) : Sp := fun vs H Q _ => ∃ (k : Str) (a : Addr) (ds : List D) (v : V) (e : D), vs = [.str k, .ref a, v] ∧ Dp K H (.ref a) (.tuple ds) ∧ ringL ds = true ∧ ds.length ≤ 1000 ∧ Dp K H v e ∧ ∀ H', Same H H' → Q (.bl (HandB k ds e)) H'
def nCanH : List Str := ["kind", "ring", "handed", "there", "item"]
theorem scCanH : FnScope nCanH ["kind", "ring", "handed"] (defScope s_can_be_handed) := ⟨rfl, rfl, rfl, by decide +kernel, rfl, by decide +kernel, by decide +kernel⟩
theorem ok_canh {CR : Addr} (R : Raw K mg "can_be_handed" s_can_be_handed ["kind", "ring", "handed"]) (T : GT mg) (DW : Def P w K mg base CX0 "is_whole" 1 ["value"] (spB K wholeD)) (DI : Def P w K mg base CX0 "is_item" 3 ["value"] (spB K itemD)) (DP : Def P w K mg base CX0 "is_pair" 2 ["value"] (spB K Rg.prD)) (DA : Def P w K mg base (L2.CX P w) "all_items" 7 ["ring"] (spAll K CR)) :
    Def P w K mg base (L2.CX P w) "can_be_handed" 8 ["kind", "ring", "handed"] (spCanH K) := by
  obtain ⟨fW, dW, GW, gW, kW, bW⟩ := DW
  obtain ⟨fI, dI, GI, gI, kI, bI⟩ := DI
  obtain ⟨fP, dP, GP, gP, kP, bP⟩ := DP
  obtain ⟨fA, dA, GA, gA, kA, bA⟩ := DA
  refine R.def fun f fd F => F.okX scCanH (fun vs H Q E h => ?_) (fun cdv A outer s H vs Q E hr h => ?_)
  · obtain ⟨k, a, ds, v, e, rfl, _⟩ := h
    rfl
  · obtain ⟨k, a, ds, v, e, rfl, dr, hring, hlen, dv, q⟩ := h
    have hr1 : Room 1 _ := hr.mono (by decide)
    have hr2 : Room 2 _ := hr.mono (by decide)
    have hr3 : Room 3 _ := hr.mono (by decide)
    refine ⟨_, pss_cons (ps_if (pt_cmpR op_eq (pv 0) pe_str (nomark _)) (pss_one (ps_ret (pe_and (pe_call GW hr1 (by rfl) gW kW bW .nil pass0 (pa_cons (pv 2) pa_nil)) (pe_and (pe_chain op_le op_lt pe_int (pv 2) (pe_callB call_len_seq (by rfl) T.len PySem.boot_len (pa_cons (pv 1) pa_nil))) (pe_one (pe_callB call_isi (by rfl) T.isi (by decide +kernel) (pa_cons (pe_ix ix_tup (pv 1) (pv 2) (fun _ _ => rfl)) (pa_cons (pe_bltn (v := .ty "tuple") (by rfl) T.tup (by decide +kernel) rfl) pa_nil)))))))) pss_nil)
      (pss_cons (ps_if (pt_not (pt_ifExp (pt_cmpR op_in_seq (pv 0) (pe_tup (pa_cons pe_str (pa_cons pe_str pa_nil))) (by rfl)) (pt_val (pe_call GI hr3 (by rfl) gI kI bI .nil pass0 (pa_cons (pv 2) pa_nil))) (pt_val (pe_call GP hr2 (by rfl) gP kP bP .nil pass0 (pa_cons (pv 2) pa_nil))))) (pss_one (ps_ret pe_bl)) pss_nil)
      (pss_cons (ps_setLc (i := 3) (own := [("item", 4)]) (g := gName 4) rfl scCanH.nd rfl rfl (sw_true rfl rfl rfl (by decide +kernel)) (pi_tup (pe_call (E := E) GA hr (by rfl) gA kA bA .nil (passes_call (takes_of rfl rfl rfl rfl) (fun _ _ _ _ z => z)) (pa_cons (pv 1) pa_nil))) (blkOk_by (own := [("item", 4)]) (N := nCanH) (sc := defScope s_can_be_handed) (by decide +kernel))
          (fun _ _ _ _ _ => pg_name (i := 4) scCanH.nd rfl (Or.inl rfl)) (fun _ _ _ _ _ => pts_one (pt_cmpR (show OpR _ _ rEq from op_eq) (pe_ix (show IxR _ (rIxT K) from ix_tup) (pv 4) pe_int (fun _ _ => rfl)) (pe_ix (show IxR _ (rIxT K) from ix_tup) (pv 2) pe_int (fun _ _ => rfl)) (nomark _))) (fun _ _ _ _ _ => pe_ix (show IxR _ (rIxT K) from ix_tup) (pv 4) pe_int (fun _ _ => rfl)))
      (pss_one (ps_ret (pe_or (pe_cmpR op_eq (pe_callB call_len_seq (by rfl) T.len PySem.boot_len (pa_cons (pv 3) pa_nil)) pe_int (nomark _)) (pe_one (pe_and (pe_cmpR op_ne (pv 0) pe_str (nomark _)) (pe_one (pe_cmpR op_eq (pe_ix ix_list (pv 3) pe_int (fun _ _ => rfl)) (pe_ix ix_tup (pv 2) pe_int (fun _ _ => rfl)) (nomark _)))))))))), ?_⟩
    obtain ⟨a', xs, e0, sq, dp⟩ := dp_tup dr
    cases e0
    refine ⟨_, rfl, rfl, _, rfl, ?_⟩
    by_cases c : k = "take"
    · rw [decide_eq_true (congrArg V.str c)]
      have z : ∀ b H', HandB k ds e = b → Same H H' → Q (.bl b) H' := fun b H' hb s => by rw [← hb]; exact q H' s
      unfold HandB at z
      rw [if_pos c] at z
      refine iteT ⟨_, rfl, v, e, rfl, dv, fun H1 s1 => ?_⟩
      cases hw : wholeD e with
      | false => exact ⟨_, rfl, iteF (z false H1 (by cases e <;> first | rfl | cases hw) s1)⟩
      | true =>
        obtain ⟨i, rfl⟩ : ∃ i, e = .int i := by cases e <;> first | exact ⟨_, rfl⟩ | cases hw
        cases dv
        refine ⟨_, rfl, iteT ⟨_, rfl, _, _, rfl, rfl, _, rfl, ?_⟩⟩
        have z : ∀ b H', (decide (0 ≤ i) && (decide (i < ds.length) && isT (row ds i))) = b → Same H H' → Q (.bl b) H' := z
        cases c0 : decide (0 ≤ i) with
        | false => exact iteF ⟨_, rfl, iteF (z false H1 (by rw [c0]; rfl) s1)⟩
        | true =>
          refine iteT ⟨_, rfl, a, _, rfl, .inr (s1.sqT sq), _, _, rfl, rfl, _, rfl, ?_⟩
          have e1 : decide (i < ((xs.length : Nat) : Int)) = decide (i < ds.length) := by rw [dp.length]
          rw [e1]
          cases c1 : decide (i < (ds.length : Int)) with
          | false => exact iteF (z false H1 (by rw [c0, c1]; rfl) s1)
          | true =>
            have i0 := of_decide_eq_true c0
            have i1 := of_decide_eq_true c1
            obtain ⟨u, hu1, hu2⟩ := dp_row dp i (by omega) (by rw [dp.length]; exact i1)
            refine iteT ⟨_, rfl, _, rfl, a, _, i, u, rfl, rfl, s1.sqT sq, hu1, u, _, _, _, isT (row ds i), rfl, .ty _, dp_ty (hu2.keep s1), kit_ty (kit_tup hu2), ?_⟩
            exact z _ H1 (by rw [c0, c1]; rfl) s1
    · rw [decide_eq_false fun z => c (V.str.inj z)]
      refine iteF ?_
      have z : ∀ b H', HandB k ds e = b → Same H H' → Q (.bl b) H' := fun b H' hb s => by rw [← hb]; exact q H' s
      unfold HandB at z
      rw [if_neg c] at z
      refine ⟨_, rfl, (by show 2 ≤ sizeLine; decide), fun b0 hb0 => ?_⟩
      have s1 := @same_upd _ b0 (.tup [V.str "put", V.str "set"]) hb0
      refine ⟨b0, _, rfl, .inr (SqT.of upd_same), rfl, by kernel_rfl, _, rfl, ?_⟩
      show if putSet k = true then _ else _
      cases hk : putSet k
      all_goals
        first | refine iteT ⟨_, rfl, v, e, rfl, dv.keep s1, fun H2 s2 => ⟨_, rfl, ?_⟩⟩ | refine iteF ⟨_, rfl, v, e, rfl, dv.keep s1, fun H2 s2 => ⟨_, rfl, ?_⟩⟩
        first | (have hk' : putSet k = true := hk; generalize hb : itemD e = b) | generalize hb : Rg.prD e = b
        have hB : (if putSet k = true then itemD e else Rg.prD e) = b := by
          rw [hk]
          first | (rw [if_pos rfl]; exact hb) | (rw [if_neg Bool.false_ne_true]; exact hb)
        have s12 := s1.trans s2
        cases b
        · exact iteT (z false H2 (by rw [hB]; rfl) s12)
        · rw [hB, Bool.true_and] at z
          refine iteF ?_
          obtain ⟨bh, r, rfl, sh⟩ := handed_parts hB dv
          refine ⟨_, rfl, .ref a, .tuple ds, rfl, dr.keep s12, (fun ds' e1 => by cases e1; exact hlen), fun ds' e1 _ x H3 dx s3 => ?_, fun zz => by rw [show ringD (.tuple ds) = ringL ds from rfl, hring] at zz; cases zz⟩
          cases e1
          obtain ⟨t, xs2, rfl, sq2, dp2⟩ := dp_tup dx
          have s123 := s12.trans s3
          refine ⟨t, rfl, ⟨_, sq2⟩, fun D hD => lc_tup (K := K) (a := t) (xs := xs2) (fun i H' => Same H3 H' ∧ H' D = some (.lst (((((ds.filter isT).take i).filter fun d => decide (keyD d = keyD e)).map hashD).map V.int))) ⟨same_upd hD, upd_same⟩ (fun i H' _ h => h.1.sqT sq2) ?_ ?_⟩
          · rintro i x H4 hx ⟨s4, h4⟩
            obtain ⟨d, hd, dx2⟩ := dp_at dp2 hx
            have dm := List.mem_filter.mp (List.mem_of_getElem? hd)
            obtain ⟨k', x', m', rfl, _⟩ := item_parts (row_item (List.all_eq_true.mp (ring_rows hring) _ dm.1) dm.2)
            obtain ⟨a2, rfl, q2⟩ := dp_item dx2
            have q2' := s4.sqT q2
            have tk : ((ds.filter isT).take (i + 1)).filter (fun d => decide (keyD d = keyD e)) = ((ds.filter isT).take i).filter (fun d => decide (keyD d = keyD e)) ++ (if decide (k' = keyD e) = true then [.tuple [.int k', .int x', .int m']] else []) := by
              rw [take_more hd, List.filter_append, List.filter_cons, List.filter_nil]
              rfl
            refine ⟨rfl, _, rfl, a2, _, 0, .int k', rfl, rfl, q2', rfl, _, rfl, bh, _, 0, .int (keyD e), rfl, rfl, (s123.trans s4).sqT sh, atI_nat (j := 0) rfl, rfl, _, rfl, ?_⟩
            by_cases ck : k' = keyD e
            · rw [decide_eq_true ck, if_pos rfl] at tk
              rw [decide_eq_true (congrArg V.int ck)]
              refine iteT ⟨_, rfl, a2, _, 1, .int x', rfl, rfl, q2', rfl, _, h4, ?_, fun y o hy => ?_, ?_⟩
              · have l1 := List.length_filter_le (fun d => decide (keyD d = keyD e)) ((ds.filter isT).take i)
                have l2 := List.length_filter_le isT ds
                rw [List.length_take] at l1
                rw [List.length_map, List.length_map, sizeLine_eq]; omega
              · rw [upd_ne (ne_of_none hy hD)]; exact s4 y o hy
              · rw [upd_same, tk, List.map_append, List.map_append]; rfl
            · rw [decide_eq_false ck, if_neg (by decide), List.append_nil] at tk
              rw [decide_eq_false fun zz => ck (V.int.inj zz)]
              exact iteF ⟨s4, by rw [tk]; exact h4⟩
          · rintro H4 ⟨s4, h4⟩
            rw [dp2.length, List.take_length] at h4
            have h4 : H4 D = some (.lst ((there ds (keyD e)).map V.int)) := h4
            have s1234 := s123.trans s4
            refine ⟨_, rfl, D, _, rfl, .inl (SqL.of h4), rfl, _, rfl, ?_⟩
            cases ht : there ds (keyD e) with
            | nil => exact iteT (z true H4 (by rw [ht]; rfl) s1234)
            | cons h0 rest =>
              rw [ht] at h4 z
              have e1 : decide (V.int ((((h0 :: rest).map V.int).length : Nat) : Int) = V.int 0) = false := decide_eq_false fun zz => by have := V.int.inj zz; rw [List.length_map, List.length_cons] at this; omega
              refine ifF e1 ⟨_, rfl, rfl, _, rfl, ?_⟩
              have e2 : (!decide (V.str k = V.str "put")) = decide (k ≠ "put") := by
                by_cases cp : k = "put"
                · rw [decide_eq_true (congrArg V.str cp), decide_eq_false (by simpa using cp)]; rfl
                · rw [decide_eq_false fun zz => cp (V.str.inj zz), decide_eq_true cp]; rfl
              rw [e2]
              cases cp : decide (k ≠ "put") with
              | false => exact iteF (z false H4 (by rw [cp]; rfl) s1234)
              | true =>
                refine iteT ⟨_, rfl, D, _, 0, .int h0, rfl, rfl, SqL.of h4, atI_nat (j := 0) rfl, _, rfl, bh, _, 1, .int (hash2 e), rfl, rfl, s1234.sqT sh, atI_nat (j := 1) rfl, rfl, ?_⟩
                have e3 : decide (V.int h0 = V.int (hash2 e)) = decide (some h0 = some (hash2 e)) := by
                  by_cases ch : h0 = hash2 e
                  · rw [decide_eq_true (congrArg V.int ch), decide_eq_true (congrArg some ch)]
                  · rw [decide_eq_false fun zz => ch (V.int.inj zz), decide_eq_false fun zz => ch (Option.some.inj zz)]
                rw [e3]
                exact z _ H4 (by rw [cp]; rfl) s1234
end
end K40

namespace K40
open PySem PySem.Spec PyProof.Rows L2 Rg PySem.RingX
open Fm hiding D
/-! ## State -/
def s6 (c a r g : Addr) (hd ky : V) : List (Str × V) := [("code", .ref c), ("start", .ref a), ("rows", .ref r), ("registers", .ref g), ("hand", hd), ("key", ky)]
def stF (c a r g : Addr) (hd ky : V) (pl sd mt : Addr) : List (Str × V) := [("code", .ref c), ("start", .ref a), ("rows", .ref r), ("registers", .ref g), ("hand", hd), ("key", ky), ("steps", .int 0), ("played", .ref pl), ("sided", .ref sd), ("met", .ref mt), ("last_met", .non)]
def stNames : List Str := ["code", "start", "rows", "registers", "hand", "key", "steps", "played", "sided", "met", "last_met"]
section
variable (c a r g : Addr) (hd ky z : V) (pl sd mt : Addr)
theorem s6_made : putF "key" .non (putF "hand" .non (putF "registers" (.ref g) (putF "rows" (.ref r) (putF "start" (.ref a) (putF "code" (.ref c) []))))) = s6 c a r g .non .non := by kernel_rfl
theorem s6_key : putF "key" z (s6 c a r g hd ky) = s6 c a r g hd z := by kernel_rfl
theorem s6_hand : putF "hand" z (s6 c a r g hd ky) = s6 c a r g z ky := by kernel_rfl
theorem s6_regs : (s6 c a r g hd ky).lookup ("registers" : Str) = some (.ref g) := by kernel_rfl
theorem st_made : putF "last_met" .non (putF "met" (.ref mt) (putF "sided" (.ref sd) (putF "played" (.ref pl) (putF "steps" (.int 0) (s6 c a r g hd ky))))) = stF c a r g hd ky pl sd mt := by kernel_rfl
theorem st_code : (stF c a r g hd ky pl sd mt).lookup ("code" : Str) = some (.ref c) := by kernel_rfl
theorem st_start : (stF c a r g hd ky pl sd mt).lookup ("start" : Str) = some (.ref a) := by kernel_rfl
theorem st_rows : (stF c a r g hd ky pl sd mt).lookup ("rows" : Str) = some (.ref r) := by kernel_rfl
theorem st_regs : (stF c a r g hd ky pl sd mt).lookup ("registers" : Str) = some (.ref g) := by kernel_rfl
theorem st_steps : (stF c a r g hd ky pl sd mt).lookup ("steps" : Str) = some (.int 0) := by kernel_rfl
theorem st_played : (stF c a r g hd ky pl sd mt).lookup ("played" : Str) = some (.ref pl) := by kernel_rfl
theorem st_sided : (stF c a r g hd ky pl sd mt).lookup ("sided" : Str) = some (.ref sd) := by kernel_rfl
theorem st_met : (stF c a r g hd ky pl sd mt).lookup ("met" : Str) = some (.ref mt) := by kernel_rfl
end
def regK : List (Key × V) := [(.inr "at", .non), (.inr "hole", .non), (.inr "low", .non), (.inr "top", .non), (.inr "out", .non)]
def regL (x y : V) : List (Key × V) := [(.inr "at", x), (.inr "hole", .non), (.inr "low", .non), (.inr "top", .non), (.inr "out", .non), (.inr "none", .non), (.inr "first", y)]
theorem reg_made : putK (putK (mergeK [] regK) (.inr "none") .non) (.inr "first") .non = regL .non .non := by kernel_rfl
theorem reg_at (x y z : V) : putK (regL x y) (.inr "at") z = regL z y := by kernel_rfl
theorem reg_first (x y z : V) : putK (regL x y) (.inr "first") z = regL x z := by kernel_rfl
theorem reg_out (x y : V) : putK (regL x y) (.inr "out") .non = regL x y := by kernel_rfl
theorem get_none (x y : V) : valV (regL x y) (.inr "none") = some .non := by kernel_rfl
theorem get_out (x y : V) : valV (regL x y) (.inr "out") = some .non := by kernel_rfl
/-- an instance that is being made -/
structure Stg (CS : Addr) (H H' : Hp) (p dx r g : Addr) (fs : List (Str × V)) (xs : List V) (kvs : List (Key × V)) : Prop where
  keep : ∀ b o, b ≠ p → H b = some o → H' b = some o
  ob : H' p = some (.ins CS dx fs)
  hr : H' r = some (.lst xs)
  hg : H' g = some (.dK kvs)
  nr : H r = none
  ng : H g = none
section
variable {CS : Addr} {H H' : Hp} {p dx r g : Addr} {fs fs' : List (Str × V)} {xs : List V} {kvs kvs' : List (Key × V)}
theorem Stg.setP (S : Stg CS H H' p dx r g fs xs kvs) : Stg CS H (upd H' p (.ins CS dx fs')) p dx r g fs' xs kvs :=
  ⟨fun b o n e => by rw [upd_ne n]; exact S.keep b o n e, upd_same, by rw [upd_ne (ne_of S.hr S.ob (fun z => nomatch z))]; exact S.hr, by rw [upd_ne (ne_of S.hg S.ob (fun z => nomatch z))]; exact S.hg, S.nr, S.ng⟩
theorem Stg.setG (S : Stg CS H H' p dx r g fs xs kvs) : Stg CS H (upd H' g (.dK kvs')) p dx r g fs xs kvs' :=
  ⟨fun b o n e => by rw [upd_ne (ne_of_none e S.ng)]; exact S.keep b o n e, by rw [upd_ne (ne_of S.ob S.hg (fun z => nomatch z))]; exact S.ob, by rw [upd_ne (ne_of S.hr S.hg (fun z => nomatch z))]; exact S.hr, upd_same, S.nr, S.ng⟩
theorem Stg.new {q : Addr} {o : HO} (S : Stg CS H H' p dx r g fs xs kvs) (hq : H' q = none) : Stg CS H (upd H' q o) p dx r g fs xs kvs :=
  ⟨fun b u n e => by have := S.keep b u n e; rw [upd_ne (ne_of_none this hq)]; exact this, by rw [upd_ne (ne_of_none S.ob hq)]; exact S.ob, by rw [upd_ne (ne_of_none S.hr hq)]; exact S.hr, by rw [upd_ne (ne_of_none S.hg hq)]; exact S.hg, S.nr, S.ng⟩
end
theorem Stg.fresh {CS : Addr} {H H' : Hp} {p dx r g : Addr} {fs : List (Str × V)} {xs : List V} {kvs : List (Key × V)} {q : Addr} (S : Stg CS H H' p dx r g fs xs kvs) (hq : H' q = none) : H q = none ∧ q ≠ p := by
  have e : q ≠ p := by
    rintro rfl
    rw [S.ob] at hq; cases hq
  refine ⟨?_, e⟩
  cases z : H q with
  | none => rfl
  | some o => rw [S.keep q o e z] at hq; cases hq
/-- a state at p -/
structure StateAt (CS : Addr) (H : Hp) (p dx c a r g : Addr) (hd ky : V) (pl sd mt : Addr) (xs : List V) (x y : V) (pls : List (Key × V)) : Prop where
  ob : H p = some (.ins CS dx (stF c a r g hd ky pl sd mt))
  hr : H r = some (.lst xs)
  hg : H g = some (.dK (regL x y))
  hp : H pl = some (.dK pls)
  hs : H sd = some (.dK [])
  hm : H mt = some (.lst [])
  ne : pl ≠ sd
  ng : g ≠ pl
  ns : g ≠ sd
theorem StateAt.same {CS : Addr} {H H' : Hp} {p dx c a r g : Addr} {hd ky : V} {pl sd mt : Addr} {xs : List V} {x y : V} {pls : List (Key × V)} (S : StateAt CS H p dx c a r g hd ky pl sd mt xs x y pls) (s : Same H H') : StateAt CS H' p dx c a r g hd ky pl sd mt xs x y pls :=
  ⟨s _ _ S.ob, s _ _ S.hr, s _ _ S.hg, s _ _ S.hp, s _ _ S.hs, s _ _ S.hm, S.ne, S.ng, S.ns⟩
section
variable {P : Program} {w : World} {K : PySem.W.Frag} {mg : Str → Option Value} {base : Heap}
def nSI : List Str := ["self", "code", "ring", "handed"]
def spStateI (K : PySem.W.Frag) (C CC CS : Addr) : Sp := fun vs H Q _ => ∃ (p dx c a : Addr) (v : V) (k x text : Str) (Ls : List LineM) (xs : List V), vs = [.ref p, .ref c, .ref a, v] ∧ H p = some (.ins CS dx []) ∧ CodeP K C CC H c k x text Ls ∧ SqT K H a xs ∧ 0 < xs.length ∧
  ((k = "take" ∧ ∃ i, v = .int i) ∨ (k ≠ "take" ∧ ∃ (b : Addr) (ky hs : Int) (rr : List V), v = .ref b ∧ SqT K H b (.int ky :: .int hs :: rr))) ∧
  ∀ (r g pl sd mt : Addr) (hd ky : V) (x y : V) (H' : Hp), (∀ b o, b ≠ p → H b = some o → H' b = some o) → H r = none → H g = none → H pl = none → H sd = none → H mt = none → StateAt CS H' p dx c a r g hd ky pl sd mt xs x y [] → Q .non H'
theorem scSI : FnScope nSI nSI (defScope s_State_init) := ⟨rfl, rfl, rfl, by decide +kernel, rfl, by decide +kernel, by decide +kernel⟩
theorem ok_stateI {f C CC CS : Addr} {fd : FuncData} (F : Fun K "__init__" "State.__init__" s_State_init f fd) (TG : GT mg) (T : ClsT K mg CS "State" stNames) (TT : ClsT K mg CC "Code" codeNames) (DH : Def P w K mg base CX0 "home" 1 ["item", "many"] (spHome2 K)) : FnOk P w K mg base CX0 2 f fd nSI (spStateI K C CC CS) := by
  obtain ⟨fH, dH, GH, gH, kH, bH⟩ := DH
  refine F.ok scSI (fun vs H Q E h => ?_) (fun cdv A outer s H vs Q E hr h => ?_)
  · obtain ⟨p, dx, c, a, v, k, x, text, Ls, xs, rfl, _⟩ := h
    rfl
  · obtain ⟨p, dx, c, a, v, k, x, text, Ls, xs, rfl, hp, cp, sq, hx, hv, q⟩ := h
    have hu := hu_of hr
    -- the end
    obtain ⟨tE, pE, qE⟩ : ∃ tE, PSs (cxOf CX0 P w K mg base nSI "State.__init__" (defScope s_State_init) f cdv A outer s H E).nox ((defBody s_State_init).drop 10) tE ∧
        ∀ (D : Ends) (r g : Addr) (hd ky x y : V) (H1 : Hp), Stg CS H H1 p dx r g (s6 c a r g hd ky) xs (regL x y) →
          (∀ (pl sd mt : Addr) (H' : Hp), (∀ b o, b ≠ p → H b = some o → H' b = some o) → H pl = none → H sd = none → H mt = none → StateAt CS H' p dx c a r g hd ky pl sd mt xs x y [] → ∀ σ, D.nx σ H') →
          tE D [some (.ref p), some (.ref c), some (.ref a), some v] H1 := by
      refine ⟨_, PSs.nox (pss_cons (ps_fld (pv 0) pe_int rfl) (pss_cons (ps_fld (pv 0) pe_dnewK rfl) (pss_cons (ps_fld (pv 0) pe_dnewK rfl) (pss_cons (ps_fld (pv 0) (pe_lst pa_nil) rfl) (pss_one (ps_fld (pv 0) pe_non rfl)))))), ?_⟩
      intro D r g hd ky x y H1 S next
      have l6 : (s6 c a r g hd ky).length < 7 := by show 6 < 7; decide
      refine ⟨_, rfl, p, CS, dx, _, rfl, S.ob, T.cl, T.no _ (by simp [stNames]), lt1000 l6, fun pl hpl => ?_⟩
      have S1 := S.setP (fs' := putF "steps" (.int 0) (s6 c a r g hd ky))
      have S2 := S1.new (o := .dK []) hpl
      obtain ⟨pl0, plp⟩ := S1.fresh hpl
      have gp : g ≠ pl := ne_of_none S1.hg hpl
      refine ⟨_, rfl, p, CS, dx, _, rfl, S2.ob, T.cl, T.no _ (by simp [stNames]), lt1000 (putF_lt l6), fun sd hsd => ?_⟩
      have S3 := S2.setP (fs' := putF "played" (.ref pl) (putF "steps" (.int 0) (s6 c a r g hd ky)))
      have p3 : upd (upd (upd H1 p (.ins CS dx (putF "steps" (.int 0) (s6 c a r g hd ky)))) pl (.dK [])) p (.ins CS dx (putF "played" (.ref pl) (putF "steps" (.int 0) (s6 c a r g hd ky)))) pl = some (.dK []) := by rw [upd_ne plp, upd_same]
      have S4 := S3.new (o := .dK []) hsd
      obtain ⟨sd0, sdp⟩ := S3.fresh hsd
      have gs : g ≠ sd := ne_of_none S3.hg hsd
      have psd : pl ≠ sd := ne_of_none p3 hsd
      refine ⟨_, rfl, p, CS, dx, _, rfl, S4.ob, T.cl, T.no _ (by simp [stNames]), lt1000 (putF_lt (putF_lt l6)), (by show 0 ≤ sizeLine; decide), fun mt hmt => ?_⟩
      have S5 := S4.setP (fs' := putF "sided" (.ref sd) (putF "played" (.ref pl) (putF "steps" (.int 0) (s6 c a r g hd ky))))
      have S6 := S5.new (o := .lst []) hmt
      obtain ⟨mt0, mtp⟩ := S5.fresh hmt
      refine ⟨_, rfl, p, CS, dx, _, rfl, S6.ob, T.cl, T.no _ (by simp [stNames]), lt1000 (putF_lt (putF_lt (putF_lt l6))), ?_⟩
      have S7 := S6.setP (fs' := putF "met" (.ref mt) (putF "sided" (.ref sd) (putF "played" (.ref pl) (putF "steps" (.int 0) (s6 c a r g hd ky)))))
      refine ⟨_, rfl, p, CS, dx, _, rfl, S7.ob, T.cl, T.no _ (by simp [stNames]), lt1000 (putF_lt (putF_lt (putF_lt (putF_lt l6)))), ?_⟩
      have S8 := S7.setP (fs' := stF c a r g hd ky pl sd mt)
      rw [st_made]
      have p4 : ∀ o, upd (upd (upd (upd H1 p (.ins CS dx (putF "steps" (.int 0) (s6 c a r g hd ky)))) pl (.dK [])) p (.ins CS dx (putF "played" (.ref pl) (putF "steps" (.int 0) (s6 c a r g hd ky))))) sd o pl = some (.dK []) := fun o => by rw [upd_ne psd]; exact p3
      generalize upd (upd (upd H1 p (.ins CS dx (putF "steps" (.int 0) (s6 c a r g hd ky)))) pl (.dK [])) p (.ins CS dx (putF "played" (.ref pl) (putF "steps" (.int 0) (s6 c a r g hd ky)))) = H3 at *
      have plm : pl ≠ mt := ne_of_none (by rw [upd_ne plp]; exact p4 _) hmt
      have sdm : sd ≠ mt := ne_of_none (o := .dK []) (by rw [upd_ne sdp, upd_same]) hmt
      refine next pl sd mt _ S8.keep pl0 sd0 mt0 ⟨S8.ob, S8.hr, S8.hg, ?_, ?_, ?_, psd, gp, gs⟩ _
      · rw [upd_ne plp, upd_ne plp, upd_ne plm, upd_ne plp]; exact p4 _
      · rw [upd_ne sdp, upd_ne sdp, upd_ne sdm, upd_ne sdp, upd_same]
      · rw [upd_ne mtp, upd_ne mtp, upd_same]
    obtain ⟨dc, tt, tp, ps, hc, hc2, hc3⟩ := id cp
    have cpn : c ≠ p := fun e => by rw [e, hp] at hc; cases hc
    have code_at : ∀ {H1 r g fs ys kvs}, Stg CS H H1 p dx r g fs ys kvs → H1 c = some (.ins CC dc (cdF k x text tt tp)) := fun S => S.keep _ _ cpn hc
    have seq_at : ∀ {H1 r g fs ys kvs b zs}, Stg CS H H1 p dx r g fs ys kvs → SqT K H b zs → SqT K H1 b zs := fun S z => sqT_but hp S.keep z
    obtain ⟨tF, pF, qF⟩ : ∃ tF, PSs (cxOf CX0 P w K mg base nSI "State.__init__" (defScope s_State_init) f cdv A outer s H E).nox ((defBody s_State_init).drop 9) tF ∧
        ∀ (D : Ends) (r g : Addr) (ky x y : V) (H1 : Hp), Stg CS H H1 p dx r g (s6 c a r g .non ky) xs (regL x y) →
          (∀ (pl sd mt : Addr) (hd : V) (H' : Hp), (∀ b o, b ≠ p → H b = some o → H' b = some o) → H pl = none → H sd = none → H mt = none → StateAt CS H' p dx c a r g hd ky pl sd mt xs x y [] → ∀ σ, D.nx σ H') →
          tF D [some (.ref p), some (.ref c), some (.ref a), some v] H1 := by
      refine ⟨_, pss_cons (ps_if (pt_cmpR op_in_seq (pe_fld (pv 1) rfl) (pe_tup (pa_cons pe_str (pa_cons pe_str pa_nil))) (by rfl)) (pss_one (ps_fld (pv 0) (pv 3) rfl)) pss_nil) pE, ?_⟩
      intro D r g ky x' y H1 S next
      refine ⟨_, rfl, c, CC, dc, _, _, rfl, code_at S, TT.cl, TT.no _ (by simp [codeNames]), cd_kind .., (by show 2 ≤ sizeLine; decide), fun tq htq => ?_⟩
      have S1 := S.new (o := .tup [V.str "put", V.str "set"]) htq
      refine ⟨tq, _, rfl, .inr (SqT.of upd_same), rfl, by kernel_rfl, _, rfl, ?_⟩
      have l6 : ∀ hd ky, (s6 c a r g hd ky).length < 7 := fun _ _ => by show 6 < 7; decide
      show if putSet k = true then _ else _
      refine ite2 (fun _ => ?_) (fun _ => ?_)
      · refine ⟨_, rfl, _, rfl, p, CS, dx, _, rfl, S1.ob, T.cl, T.no _ (by simp [stNames]), lt1000 (l6 _ _), ?_⟩
        rw [s6_hand]
        exact qE _ r g v ky x' y _ S1.setP fun pl sd mt H' z0 z1 z2 z3 z4 => next pl sd mt v H' z0 z1 z2 z3 z4
      · exact qE _ r g .non ky x' y _ S1 fun pl sd mt H' z0 z1 z2 z3 z4 => next pl sd mt .non H' z0 z1 z2 z3 z4
    refine ⟨_, pss_cons (ps_fld (pv 0) (pv 1) rfl) (pss_cons (ps_fld (pv 0) (pv 2) rfl) (pss_cons (ps_fld (pv 0) (pe_callTy call_list_of (by rfl) TG.lst (by decide +kernel) (pa_cons (pv 2) pa_nil)) rfl)
      (pss_cons (ps_fld (pv 0) (pe_disp (pps_cons pe_str pe_non (pps_cons pe_str pe_non (pps_cons pe_str pe_non (pps_cons pe_str pe_non (pps_cons pe_str pe_non pps_nil))))) (by rfl) (by rfl) (fun z => by cases z) (by decide)) rfl)
      (pss_cons (ps_dput hu (pe_fld (pv 0) rfl) pe_str pe_non rfl) (pss_cons (ps_dput hu (pe_fld (pv 0) rfl) pe_str pe_non rfl)
      (pss_cons (ps_fld (pv 0) pe_non rfl) (pss_cons (ps_fld (pv 0) pe_non rfl)
      (pss_cons (ps_if (pt_cmpR op_eq (pe_fld (pv 1) rfl) pe_str (nomark _)) (pss_one (ps_dput hu (pe_fld (pv 0) rfl) pe_str (pv 3) rfl))
        (pss_cons (ps_dput hu (pe_fld (pv 0) rfl) pe_str (pe_call GH hr (by rfl) gH kH bH .nil pass0 (pa_cons (pv 3) (pa_cons (pe_callB call_len_seq (by rfl) TG.len PySem.boot_len (pa_cons (pv 2) pa_nil)) pa_nil))) rfl) (pss_one (ps_fld (pv 0) (pe_ix ix_tup (pv 3) pe_int (fun _ _ => rfl)) rfl))))
      pF)))))))), ?_⟩
    have l2 : (putF "start" (V.ref a) (putF "code" (V.ref c) [])).length < 3 := putF_lt (putF_lt nil_lt)
    have k1 : ∀ b o, b ≠ p → H b = some o → upd H p (.ins CS dx (putF "start" (.ref a) (putF "code" (.ref c) []))) b = some o := fun b o n e => by rw [upd_ne n]; exact e
    refine ⟨_, rfl, _, rfl, p, CS, dx, _, rfl, hp, T.cl, T.no _ (by simp [stNames]), lt1000 nil_lt, _, rfl, _, rfl, p, CS, dx, _, rfl, upd_same, T.cl, T.no _ (by simp [stNames]), lt1000 (putF_lt nil_lt), ?_⟩
    rw [upd_upd]
    refine ⟨_, rfl, a, xs, rfl, .inr (sqT_but hp k1 sq), fun r hr0 => ?_⟩
    have rp : r ≠ p := by
      rintro rfl
      rw [upd_same] at hr0; cases hr0
    have nr : H r = none := by rw [upd_ne rp] at hr0; exact hr0
    refine ⟨_, rfl, p, CS, dx, _, rfl, (same_upd hr0) _ _ upd_same, T.cl, T.no _ (by simp [stNames]), lt1000 l2, fun g hg0 => ⟨upd_same, regK, rfl, by decide, ?_⟩⟩
    rw [upd_upd]
    have l3 : (putF "rows" (V.ref r) (putF "start" (V.ref a) (putF "code" (V.ref c) []))).length < 4 := putF_lt l2
    have l4 : (putF "registers" (V.ref g) (putF "rows" (V.ref r) (putF "start" (V.ref a) (putF "code" (V.ref c) [])))).length < 5 := putF_lt l3
    have lk : (putF "registers" (V.ref g) (putF "rows" (V.ref r) (putF "start" (V.ref a) (putF "code" (V.ref c) [])))).lookup ("registers" : Str) = some (.ref g) := by kernel_rfl
    have l5 : (putF "hand" V.non (putF "registers" (V.ref g) (putF "rows" (V.ref r) (putF "start" (V.ref a) (putF "code" (V.ref c) []))))).length < 6 := putF_lt l4
    have gp : g ≠ p := by
      rintro rfl
      rw [upd_same] at hg0; cases hg0
    have gr : g ≠ r := by
      rintro rfl
      rw [upd_ne gp, upd_same] at hg0; cases hg0
    have ng : H g = none := by rw [upd_ne gp, upd_ne gr, upd_ne gp] at hg0; exact hg0
    have S0 : Stg CS H (upd (upd (upd (upd (upd H p (.ins CS dx (putF "start" (.ref a) (putF "code" (.ref c) [])))) r (.lst xs)) p (.ins CS dx (putF "rows" (.ref r) (putF "start" (.ref a) (putF "code" (.ref c) []))))) g (.dK (mergeK [] regK))) p (.ins CS dx (putF "registers" (.ref g) (putF "rows" (.ref r) (putF "start" (.ref a) (putF "code" (.ref c) [])))))) p dx r g (putF "registers" (.ref g) (putF "rows" (.ref r) (putF "start" (.ref a) (putF "code" (.ref c) [])))) xs (mergeK [] regK) := by
      refine ⟨fun b o n e => ?_, upd_same, ?_, ?_, nr, ng⟩
      · rw [upd_ne n, upd_ne (ne_of_none e ng), upd_ne n, upd_ne (ne_of_none e nr), upd_ne n]; exact e
      · rw [upd_ne rp, upd_ne gr.symm, upd_ne rp, upd_same]
      · rw [upd_ne gp, upd_same]
    refine ⟨_, rfl, p, CS, dx, _, rfl, by rw [upd_ne gp.symm, upd_same], T.cl, T.no _ (by simp [stNames]), lt1000 l3, ?_⟩
    generalize upd (upd (upd (upd (upd H p (.ins CS dx (putF "start" (.ref a) (putF "code" (.ref c) [])))) r (.lst xs)) p (.ins CS dx (putF "rows" (.ref r) (putF "start" (.ref a) (putF "code" (.ref c) []))))) g (.dK (mergeK [] regK))) p (.ins CS dx (putF "registers" (.ref g) (putF "rows" (.ref r) (putF "start" (.ref a) (putF "code" (.ref c) []))))) = H0 at S0 ⊢
    refine ⟨_, rfl, p, CS, dx, _, _, rfl, S0.ob, T.cl, T.no _ (by simp [stNames]), lk, g, _, rfl, DPut.k (k := Sum.inr "none") S0.hg (by show (mergeK [] regK).length < sizeLine; decide +kernel), ?_⟩
    have S1 := S0.setG (kvs' := putK (mergeK [] regK) (Sum.inr "none") .non)
    refine ⟨_, rfl, p, CS, dx, _, _, rfl, S1.ob, T.cl, T.no _ (by simp [stNames]), lk, g, _, rfl, DPut.k (k := Sum.inr "first") S1.hg (by decide +kernel), ?_⟩
    rw [reg_made]
    have S2 := S1.setG (kvs' := regL .non .non)
    refine ⟨_, rfl, p, CS, dx, _, rfl, S2.ob, T.cl, T.no _ (by simp [stNames]), lt1000 l4, _, rfl, p, CS, dx, _, rfl, upd_same, T.cl, T.no _ (by simp [stNames]), lt1000 l5, ?_⟩
    rw [upd_upd, s6_made]
    have S3 := S2.setP (fs' := s6 c a r g .non .non)
    have rl : ∀ x y : V, (regL x y).length < sizeLine := fun _ _ => by show 7 < sizeLine; decide
    refine ⟨_, rfl, c, CC, dc, _, _, rfl, code_at S3, TT.cl, TT.no _ (by simp [codeNames]), cd_kind .., rfl, _, rfl, ?_⟩
    have fin : ∀ (ky x y : V) (H1 : Hp), Stg CS H H1 p dx r g (s6 c a r g .non ky) xs (regL x y) → ∀ (pl sd mt : Addr) (hd : V) (H' : Hp), (∀ b o, b ≠ p → H b = some o → H' b = some o) → H pl = none → H sd = none → H mt = none → StateAt CS H' p dx c a r g hd ky pl sd mt xs x y [] → Q .non H' := fun ky x y H1 S pl sd mt hd H' z0 z1 z2 z3 z4 => q r g pl sd mt hd ky x y H' z0 S.nr S.ng z1 z2 z3 z4
    rcases hv with ⟨ck, i, rfl⟩ | ⟨ck, b, kyi, hs, rr, rfl, sb⟩
    · rw [decide_eq_true (congrArg V.str ck)]
      refine iteT ⟨_, rfl, _, rfl, p, CS, dx, _, _, rfl, S3.ob, T.cl, T.no _ (by simp [stNames]), s6_regs .., g, _, rfl, DPut.k (k := Sum.inr "at") S3.hg (rl _ _), ?_⟩
      rw [reg_at]
      have S4 := S3.setG (kvs' := regL (.int i) .non)
      exact qF _ r g .non (.int i) .non _ S4 fun pl sd mt hd H' z0 z1 z2 z3 z4 σ => fin _ _ _ _ S4 pl sd mt hd H' z0 z1 z2 z3 z4
    · rw [decide_eq_false fun z => ck (V.str.inj z)]
      refine iteF ⟨_, rfl, _, rfl, a, xs, rfl, .inr (seq_at S3 sq), b, .int kyi, hs, _, rr, rfl, seq_at S3 sb, by omega, ?_⟩
      refine ⟨_, rfl, p, CS, dx, _, _, rfl, S3.ob, T.cl, T.no _ (by simp [stNames]), s6_regs .., g, _, rfl, DPut.k (k := Sum.inr "first") S3.hg (rl _ _), ?_⟩
      rw [reg_first]
      have S4 := S3.setG (kvs' := regL .non (.int (hs % (xs.length : Nat))))
      refine ⟨_, rfl, b, _, 0, .int kyi, rfl, rfl, seq_at S4 sb, atI_nat (j := 0) rfl, _, rfl, p, CS, dx, _, rfl, S4.ob, T.cl, T.no _ (by simp [stNames]), (by show 6 < 1000; decide), ?_⟩
      rw [s6_key]
      have S5 := S4.setP (fs' := s6 c a r g .non (.int kyi))
      exact qF _ r g (.int kyi) .non _ _ S5 fun pl sd mt hd H' z0 z1 z2 z3 z4 σ => fin _ _ _ _ S5 pl sd mt hd H' z0 z1 z2 z3 z4
end
end K40

namespace K40
open PySem PySem.Spec PyProof.Rows L2 Rg PySem.RingX
open Fm hiding D
/-! ## A play of nothing, of one quit, of out = none -/
/-- programs of no line, or of one that changes nothing -/
def Idle (Ls : List LineM) : Prop := Ls = [] ∨ ∃ l, Ls = [l] ∧ l.thn = 2 ∧ ((l.form = "set" ∧ l.words = [("out" : Str), "none"]) ∨ l.form = "quit")
def DoneAt (mg : Str → Option Value) : Prop := ∃ t, mg "DONE" = some (.str "done" t)
section
variable {P : Program} {w : World} {K : PySem.W.Frag} {mg : Str → Option Value} {base : Heap}
def spSetR (K : PySem.W.Frag) (CS : Addr) : Sp := fun vs H Q _ => ∃ (p dx c a r g : Addr) (hd ky : V) (pl sd mt : Addr) (xs : List V) (x y : V) (pls : List (Key × V)) (vw : V), vs = [.ref p, vw] ∧ StateAt CS H p dx c a r g hd ky pl sd mt xs x y pls ∧ Dp K H vw (strsD ["out", "none"]) ∧ Q (.str "done") (upd H g (.dK (regL x y)))
def nSR : List Str := ["state", "words", "name", "source"]
theorem scSR : FnScope nSR ["state", "words"] (defScope s_set_register) := ⟨rfl, rfl, rfl, by decide +kernel, rfl, by decide +kernel, by decide +kernel⟩
theorem ok_setR {CS : Addr} (R : Raw K mg "set_register" s_set_register ["state", "words"]) (T : ClsT K mg CS "State" stNames) (D0 : DoneAt mg) : Def P w K mg base CX0 "set_register" 1 ["state", "words"] (spSetR K CS) := by
  obtain ⟨tD, gD⟩ := D0
  refine R.def fun f fd F => F.ok scSR (fun vs H Q E h => ?_) (fun cdv A outer s H vs Q E hr h => ?_)
  · obtain ⟨p, dx, c, a, r, g, hd, ky, pl, sd, mt, xs, x, y, pls, vw, rfl, _⟩ := h
    rfl
  · obtain ⟨p, dx, c, a, r, g, hd, ky, pl, sd, mt, xs, x, y, pls, vw, rfl, S, dw, q⟩ := h
    have hu := hu_of hr
    refine ⟨_, pss_cons (ps_asg (pv 1) (pg_tup rfl (pgs_cons (pg_name (i := 2) scSR.nd rfl (Or.inl rfl)) (pgs_cons (pg_name (i := 3) scSR.nd rfl (Or.inl rfl)) pgs_nil))))
      (pss_cons (ps_dput hu (pe_fld (pv 0) rfl) (pv 2) (pe_dget hu (pe_fld (pv 0) rfl) (pv 3) (fun _ _ => rfl)) rfl)
      (pss_one (ps_ret (pe_glob (v := .str "done") (by rfl) gD ⟨_, rfl⟩)))), ?_⟩
    obtain ⟨tw, ws, rfl, qx, px⟩ := dp_tup dw
    cases px with
    | cons p1 t1 =>
      cases t1 with
      | cons p2 t2 =>
        cases t2
        cases p1
        cases p2
        have rl : (regL x y).length < sizeLine := by show 7 < sizeLine; decide
        refine ⟨_, rfl, tw, _, rfl, qx, rfl, ?_⟩
        refine ⟨_, _, rfl, _, _, rfl, rfl, _, rfl, p, CS, dx, _, _, rfl, S.ob, T.cl, T.no _ (by simp [stNames]), st_regs .., _, rfl, g, .non, rfl, ?_, ?_⟩
        · have z := DGet.k (k := Sum.inr "none") S.hg
          rw [get_none] at z
          exact z
        refine ⟨_, rfl, p, CS, dx, _, _, rfl, S.ob, T.cl, T.no _ (by simp [stNames]), st_regs .., _, rfl, g, _, rfl, DPut.k (k := Sum.inr "out") S.hg rl, ?_⟩
        rw [reg_out]
        exact q
def spDoL (K : PySem.W.Frag) (CS : Addr) : Sp := fun vs H Q _ => ∃ (p dx c a r g : Addr) (hd ky : V) (pl sd mt : Addr) (xs : List V) (x y : V) (pls : List (Key × V)) (fo : Str) (vw : V), vs = [.ref p, .str fo, vw] ∧ StateAt CS H p dx c a r g hd ky pl sd mt xs x y pls ∧
  ((fo = "set" ∧ Dp K H vw (strsD ["out", "none"])) ∨ fo = "quit") ∧ ∀ H', Same (del H g) H' → H' g = some (.dK (regL x y)) → Q (.str "done") H'
theorem scDoL : FnScope ["state", "form", "words"] ["state", "form", "words"] (defScope s_do_line) := ⟨rfl, rfl, rfl, by decide +kernel, rfl, by decide +kernel, by decide +kernel⟩
theorem ok_doL {CS : Addr} (R : Raw K mg "do_line" s_do_line ["state", "form", "words"]) (D0 : DoneAt mg) (DS : Def P w K mg base CX0 "set_register" 1 ["state", "words"] (spSetR K CS)) : Def P w K mg base CX0 "do_line" 2 ["state", "form", "words"] (spDoL K CS) := by
  obtain ⟨tD, gD⟩ := D0
  obtain ⟨fS, dS, GS, gS, kS, bS⟩ := DS
  refine R.def fun f fd F => F.ok scDoL (fun vs H Q E h => ?_) (fun cdv A outer s H vs Q E hr h => ?_)
  · obtain ⟨p, dx, c, a, r, g, hd, ky, pl, sd, mt, xs, x, y, pls, fo, vw, rfl, _⟩ := h
    rfl
  · obtain ⟨p, dx, c, a, r, g, hd, ky, pl, sd, mt, xs, x, y, pls, fo, vw, rfl, S, hf, q⟩ := h
    refine ⟨_, pss_cons (ps_if (pt_cmpR op_eq (pv 1) pe_str (nomark _)) (pss_one (ps_ret (pe_call GS hr (by rfl) gS kS bS .nil pass0 (pa_cons (pv 0) (pa_cons (pv 2) pa_nil))))) pss_nil)
      (pss_cons (ps_if (pt_cmpR op_eq (pv 1) pe_str (nomark _)) pss_no pss_nil)
      (pss_cons (ps_if (pt_cmpR op_eq (pv 1) pe_str (nomark _)) pss_no pss_nil)
      (pss_cons (ps_if (pt_cmpR op_eq (pv 1) pe_str (nomark _)) pss_no pss_nil)
      (pss_cons (ps_if (pt_cmpR op_eq (pv 1) pe_str (nomark _)) pss_no pss_nil)
      (pss_cons (ps_if (pt_cmpR op_eq (pv 1) pe_str (nomark _)) pss_no pss_nil)
      (pss_cons (ps_if (pt_cmpR op_eq (pv 1) pe_str (nomark _)) pss_no pss_nil)
      (pss_cons (ps_if (pt_cmpR op_in_seq (pv 1) (pe_tup (pa_cons pe_str (pa_cons pe_str (pa_cons pe_str pa_nil)))) (by rfl)) pss_no pss_nil)
      (pss_one (ps_ret (pe_glob (v := .str "done") (by rfl) gD ⟨_, rfl⟩)))))))))), ?_⟩
    rcases hf with ⟨rfl, dw⟩ | rfl
    · refine ⟨_, rfl, rfl, _, rfl, iteT ⟨_, rfl, _, rfl, p, dx, c, a, r, g, hd, ky, pl, sd, mt, xs, x, y, pls, vw, rfl, S, dw, ?_⟩⟩
      refine q _ (fun b o e => ?_) upd_same
      by_cases eb : b = g
      · rw [eb, del_same] at e; cases e
      · rw [upd_ne eb]; rw [del_ne eb] at e; exact e
    · refine ⟨_, rfl, rfl, _, rfl, iteF ⟨_, rfl, rfl, _, rfl, iteF ⟨_, rfl, rfl, _, rfl, iteF ⟨_, rfl, rfl, _, rfl, iteF ⟨_, rfl, rfl, _, rfl, iteF ⟨_, rfl, rfl, _, rfl, iteF ⟨_, rfl, rfl, _, rfl, iteF ⟨_, rfl, (by show 3 ≤ sizeLine; decide), fun t ht => ?_⟩⟩⟩⟩⟩⟩⟩⟩
      have s1 := @same_upd _ t (.tup [V.str "lay", V.str "lift", V.str "swap"]) ht
      refine ⟨t, _, rfl, .inr (SqT.of upd_same), rfl, by kernel_rfl, _, rfl, iteF (q _ (fun b o e => ?_) (s1 _ _ S.hg))⟩
      by_cases eb : b = g
      · rw [eb, del_same] at e; cases e
      · rw [del_ne eb] at e; exact s1 _ _ e
end
end K40

namespace K40
open PySem PySem.Spec PyProof.Rows L2 Rg PySem.RingX
open Fm hiding D
theorem cd_program (k x text : Str) (tt tp : Addr) : (cdF k x text tt tp).lookup ("program" : Str) = some (.ref tp) := by kernel_rfl
section
variable {P : Program} {w : World} {K : PySem.W.Frag} {mg : Str → Option Value} {base : Heap}
def spPlayL (K : PySem.W.Frag) (C CC CS : Addr) : Sp := fun vs H Q _ => ∃ (p dx c a r g : Addr) (hd ky : V) (pl sd mt : Addr) (xs : List V) (x y : V) (k wy text : Str) (Ls : List LineM), vs = [.ref p] ∧ StateAt CS H p dx c a r g hd ky pl sd mt xs x y [] ∧ CodeP K C CC H c k wy text Ls ∧ Idle Ls ∧
  ∀ pls H', (pls = [] ∨ pls = [(Sum.inl 1, V.bl true)]) → StateAt CS H' p dx c a r g hd ky pl sd mt xs x y pls → Same (del (del H g) pl) H' → Q (.str "done") H'
def nPL : List Str := ["state", "program", "number", "line", "side", "outcome"]
theorem scPL : FnScope nPL ["state"] (defScope s_play_lines) := ⟨rfl, rfl, rfl, by decide +kernel, rfl, by decide +kernel, by decide +kernel⟩
theorem ok_playL {C CC CS : Addr} (R : Raw K mg "play_lines" s_play_lines ["state"]) (TG : GT mg) (T : ClsT K mg CS "State" stNames) (TT : ClsT K mg CC "Code" codeNames) (TL : ClsT K mg C "Line" lineNames) (D0 : DoneAt mg) (DD : Def P w K mg base CX0 "do_line" 2 ["state", "form", "words"] (spDoL K CS)) :
    Def P w K mg base CX0 "play_lines" 3 ["state"] (spPlayL K C CC CS) := by
  obtain ⟨tD, gD⟩ := D0
  obtain ⟨fD, dD, GD, gDo, kD, bD⟩ := DD
  refine R.def fun f fd F => F.ok scPL (fun vs H Q E h => ?_) (fun cdv A outer s H vs Q E hr h => ?_)
  · obtain ⟨p, dx, c, a, r, g, hd, ky, pl, sd, mt, xs, x, y, k, wy, text, Ls, rfl, _⟩ := h
    rfl
  · obtain ⟨p, dx, c, a, r, g, hd, ky, pl, sd, mt, xs, x, y, k, wy, text, Ls, rfl, S, cp, idle, q⟩ := h
    have hu := hu_of hr
    refine ⟨_, pss_cons (ps_set (i := 1) scPL.nd rfl (Or.inl rfl) (pe_fld (pe_fld (pv 0) rfl) rfl))
      (pss_cons (ps_set (i := 2) scPL.nd rfl (Or.inl rfl) pe_int)
      (pss_cons (ps_while PassesOwn.never (pt_cmpR op_le (pv 2) (pe_callB call_len_seq (by rfl) TG.len PySem.boot_len (pa_cons (pv 1) pa_nil)) (nomark _))
        (pss_cons (ps_set (i := 3) scPL.nd rfl (Or.inl rfl) (pe_ix ix_tup (pv 1) (pe_op op_sub (pv 2) pe_int) (fun _ _ => rfl)))
        (pss_cons (ps_dput hu (pe_fld (pv 0) rfl) (pv 2) pe_bl rfl)
        (pss_one (ps_if (pt_cmpR op_in_seq (pe_fld (pv 3) rfl) (pe_tup (pa_cons pe_str (pa_cons pe_str pa_nil))) (by rfl)) pss_no
          (pss_cons (ps_set (i := 5) scPL.nd rfl (Or.inl rfl) (pe_call GD hr (by rfl) gDo kD bD .nil pass0 (pa_cons (pv 0) (pa_cons (pe_fld (pv 3) rfl) (pa_cons (pe_fld (pv 3) rfl) pa_nil)))))
          (pss_cons (ps_if (pt_cmpR op_ne (pv 5) (pe_glob (v := .str "done") (by rfl) gD ⟨_, rfl⟩) (nomark _)) pss_no pss_nil)
          (pss_one (ps_set (i := 2) scPL.nd rfl (Or.inl rfl) (pe_fld (pv 3) rfl))))))))))
      (pss_one (ps_ret (pe_glob (v := .str "done") (by rfl) gD ⟨_, rfl⟩))))), ?_⟩
    obtain ⟨dc, tt, tp, ps, hc, hc2, hc3⟩ := id cp
    refine ⟨_, rfl, p, CS, dx, _, _, rfl, S.ob, T.cl, T.no _ (by simp [stNames]), st_code .., c, CC, dc, _, _, rfl, hc, TT.cl, TT.no _ (by simp [codeNames]), cd_program .., ?_⟩
    have pln : ps.length = Ls.length := hc3.len
    rcases idle with rfl | ⟨l, rfl, lt, lf⟩
    · refine ⟨fun m σ H' => σ = [some (.ref p), some (.ref tp), some (.int 1), none, none, none] ∧ H' = H, ⟨0, rfl, rfl⟩, ?_⟩
      rintro m σ H1 ⟨rfl, rfl⟩
      refine ⟨_, rfl, _, rfl, tp, _, rfl, .inr hc2, _, _, rfl, rfl, _, rfl, ?_⟩
      rw [List.length_map, pln]
      refine ifF (by decide) ?_
      exact q [] H1 (.inl rfl) S fun b o e => same_del _ _ (same_del _ _ e)
    · obtain ⟨q1, hq1⟩ : ∃ q1, ps = [q1] := by
        match ps, pln with
        | [q1], _ => exact ⟨q1, rfl⟩
      subst hq1
      obtain ⟨dl, vw, vt, hln, dw, dt⟩ := hc3.each 0 q1 l rfl rfl
      have lnp : q1 ≠ pl := fun e => by rw [e, S.hp] at hln; cases hln
      have lng : q1 ≠ g := fun e => by rw [e, S.hg] at hln; cases hln
      refine ⟨fun m σ H' => (m = 1 ∧ σ = [some (.ref p), some (.ref tp), some (.int 1), none, none, none] ∧ H' = H) ∨ (m = 0 ∧ ∃ x3 x5, σ = [some (.ref p), some (.ref tp), some (.int 2), x3, none, x5] ∧ StateAt CS H' p dx c a r g hd ky pl sd mt xs x y [(Sum.inl 1, V.bl true)] ∧ Same (del (del H g) pl) H' ∧ SqT K H' tp [V.ref q1]), ⟨1, .inl ⟨rfl, rfl, rfl⟩⟩, ?_⟩
      rintro m σ H1 (⟨rfl, rfl, rfl⟩ | ⟨rfl, x3, x5, rfl, S1, s1, sq1⟩)
      · refine ⟨_, rfl, _, rfl, tp, _, rfl, .inr hc2, _, _, rfl, rfl, _, rfl, ?_⟩
        refine ifT (by rfl) ?_
        refine ⟨fun σ H' => ∃ x3 x5, σ = [some (.ref p), some (.ref tp), some (.int 2), x3, none, x5] ∧ StateAt CS H' p dx c a r g hd ky pl sd mt xs x y [(Sum.inl 1, V.bl true)] ∧ Same (del (del H1 g) pl) H' ∧ SqT K H' tp [V.ref q1], fun σ' H' z => ⟨0, by decide, .inr ⟨rfl, z⟩⟩, ?_⟩
        refine ⟨_, rfl, _, rfl, _, _, rfl, rfl, tp, _, 0, .ref q1, rfl, rfl, hc2, rfl, ?_⟩
        refine ⟨_, rfl, p, CS, dx, _, _, rfl, S.ob, T.cl, T.no _ (by simp [stNames]), st_played .., _, rfl, pl, _, rfl, DPut.k (k := Sum.inl 1) S.hp (by decide), ?_⟩
        have S2 : StateAt CS (upd H1 pl (.dK (putK [] (Sum.inl 1) (V.bl true)))) p dx c a r g hd ky pl sd mt xs x y [(Sum.inl 1, V.bl true)] :=
          ⟨by rw [upd_ne (ne_of S.ob S.hp (fun z => nomatch z))]; exact S.ob, by rw [upd_ne (ne_of S.hr S.hp (fun z => nomatch z))]; exact S.hr, by rw [upd_ne S.ng]; exact S.hg, upd_same, by rw [upd_ne S.ne.symm]; exact S.hs, by rw [upd_ne (ne_of S.hm S.hp (fun z => nomatch z))]; exact S.hm, S.ne, S.ng, S.ns⟩
        have k2 : ∀ b o, b ≠ pl → H1 b = some o → upd H1 pl (.dK (putK [] (Sum.inl 1) (V.bl true))) b = some o := fun b o n e => by rw [upd_ne n]; exact e
        generalize upd H1 pl (.dK (putK [] (Sum.inl 1) (V.bl true))) = H2 at S2 k2 ⊢
        have tpl : ∀ xs, H1 tp = some (.tup xs) → tp ≠ pl := fun xs e => ne_of e S.hp (fun z => nomatch z)
        have hln2 := k2 _ _ lnp hln
        have dict_T : ∀ {H H' : Hp} {q : Addr} {kvs : List (Key × V)}, H q = some (.dK kvs) → (∀ b o, b ≠ q → H b = some o → H' b = some o) → ∀ {u : Addr} {zs : List V}, SqT K H u zs → SqT K H' u zs := fun {H H' q kvs} hq ex u zs z => by
          rcases z with (z | ⟨o, z⟩) | z
          · exact .inl (.inl (ex _ _ (fun e => by rw [e, hq] at z; cases z) z))
          · exact .inl (.inr ⟨o, ex _ _ (fun e => by rw [e, hq] at z; cases z) z⟩)
          · exact .inr z
        have sq2 : SqT K H2 tp [V.ref q1] := dict_T S.hp k2 hc2
        have dw2 : Dp K H2 vw (strsD l.words) := by
          obtain ⟨tw, ws, rfl, qx, px⟩ := dp_tup dw
          refine .tup (dict_T S.hp k2 qx) ?_
          have flat : ∀ {vs : List V} {ws : List Str}, DpAll K H1 vs (ws.map PyData.str) → DpAll K H2 vs (ws.map PyData.str) := fun {vs ws} d => by
            induction ws generalizing vs with
            | nil => cases d; exact .nil
            | cons a r ih =>
              cases d with
              | cons h t =>
                cases h
                exact .cons (.str _) (ih t)
          exact flat px
        have ff : inV (.str l.form) [V.str "if", V.str "walk"] = false := by rcases lf with ⟨e, _⟩ | e <;> rw [e] <;> kernel_rfl
        refine ⟨_, rfl, q1, C, dl, _, _, rfl, hln2, TL.cl, TL.no _ (by simp [lineNames]), ln_form .., (by show 2 ≤ sizeLine; decide), fun t ht => ?_⟩
        have s3 := @same_upd _ t (.tup [V.str "if", V.str "walk"]) ht
        refine ⟨t, _, rfl, .inr (SqT.of upd_same), rfl, by kernel_rfl, _, rfl, ?_⟩
        generalize upd H2 t (.tup [V.str "if", V.str "walk"]) = H3 at s3 ⊢
        refine ifF ff ?_
        have S3 := S2.same s3
        have hln3 := s3 _ _ hln2
        refine ⟨_, rfl, _, rfl, q1, C, dl, _, _, rfl, hln3, TL.cl, TL.no _ (by simp [lineNames]), ln_form .., _, rfl, q1, C, dl, _, _, rfl, hln3, TL.cl, TL.no _ (by simp [lineNames]), ln_words .., ?_⟩
        refine ⟨p, dx, c, a, r, g, hd, ky, pl, sd, mt, xs, x, y, _, l.form, vw, rfl, S3, ?_, fun H4 s4 g4 => ?_⟩
        · rcases lf with ⟨e, ew⟩ | e
          · rw [ew] at dw2
            exact .inl ⟨e, dw2.keep s3⟩
          · exact .inr e
        have s4' : ∀ b o, b ≠ g → H3 b = some o → H4 b = some o := fun b o n e => s4 b o (by rw [del_ne n]; exact e)
        have S4 : StateAt CS H4 p dx c a r g hd ky pl sd mt xs x y [(Sum.inl 1, V.bl true)] :=
          ⟨s4' _ _ (ne_of S3.ob S3.hg (fun z => nomatch z)) S3.ob, s4' _ _ (ne_of S3.hr S3.hg (fun z => nomatch z)) S3.hr, g4, s4' _ _ S.ng.symm S3.hp, s4' _ _ S.ns.symm S3.hs, s4' _ _ (ne_of S3.hm S3.hg (fun z => nomatch z)) S3.hm, S.ne, S.ng, S.ns⟩
        have hln4 := s4' _ _ lng hln3
        refine ⟨_, rfl, rfl, _, rfl, ifF (by rfl) ?_⟩
        refine ⟨_, rfl, q1, C, dl, _, _, rfl, hln4, TL.cl, TL.no _ (by simp [lineNames]), ln_then .., ?_⟩
        refine ⟨some (.ref q1), some (.str "done"), ?_, S4, fun b o e => ?_, dict_T S3.hg s4' (s3.sqT sq2)⟩
        · rw [lt]; rfl
        · by_cases b1 : b = pl
          · rw [b1, del_same] at e; cases e
          rw [del_ne b1] at e
          by_cases b2 : b = g
          · rw [b2, del_same] at e; cases e
          rw [del_ne b2] at e
          exact s4' _ _ b2 (s3 _ _ (k2 _ _ b1 e))
      · refine ⟨_, rfl, _, rfl, tp, _, rfl, .inr sq1, _, _, rfl, rfl, _, rfl, ?_⟩
        refine ifF (by rfl) ?_
        exact q _ H1 (.inr rfl) S1 s1
end
end K40

/-! ## sorted() of tuples of ints, below 0 too -/
namespace SortNg
open PySem PySem.Spec PyProof.Rows
/-- lifted by S -/
def lift (S : Int) (ns : List Int) : List Int := ns.map fun n => n + S
/-- the rank of a tuple -/
def rank (B S : Int) (ns : List Int) : Int := TS.code B (lift S ns)
def Fits (B S : Int) (ns : List Int) : Prop := TS.Bd B (lift S ns)
/-- tuples of d ints each that fit -/
def AllFit (h : Heap) (d : Nat) (B S : Int) (vs : List Value) : Prop := ∀ v ∈ vs, ∃ ns, TS.TupInts h v ns ∧ ns.length = d ∧ Fits B S ns
section
variable {prog : Program} {w : World} {A : Around} {E : Value → Shared → Prop} {s : Shared}
theorem AllFit.later {h h' : Heap} {d : Nat} {B S : Int} {vs : List Value} (x : AllFit h d B S vs) (k : ∀ b o, h.get? b = some o → o.cls = .type "tuple" → h'.get? b = some o) : AllFit h' d B S vs := fun v hv =>
  let ⟨ns, t, r⟩ := x v hv; ⟨ns, t.keeps k, r⟩
theorem rank_head {B S p q : Int} {ns ms : List Int} (hl : ns.length = ms.length) (h1 : Fits B S (p :: ns)) (h2 : Fits B S (q :: ms)) (e : p ≠ q) : rank B S (p :: ns) < rank B S (q :: ms) ↔ p < q := by
  have l1 : (lift S ns).length = (lift S ms).length := by unfold lift; rw [List.length_map, List.length_map]; exact hl
  have t1 : TS.Bd B (lift S ns) := TS.Bd.tail (d := p + S) h1
  have t2 : TS.Bd B (lift S ms) := TS.Bd.tail (d := q + S) h2
  have up : ∀ {a b : Int} {xs ys : List Int}, (lift S xs).length = (lift S ys).length → TS.Bd B (lift S xs) → TS.Bd B (lift S ys) → a < b → rank B S (a :: xs) < rank B S (b :: ys) := fun hl x y z => TS.code_lt (d := _ + S) (e := _ + S) hl x y (by omega)
  constructor
  · intro z
    rcases Int.lt_trichotomy p q with y | y | y
    · exact y
    · exact absurd y e
    · have := up l1.symm t2 t1 y
      omega
  · exact up l1 t1 t2
theorem lex {B S : Int} {b : Bool} {Q : Bool → Shared → Prop} : ∀ {xs ys : List Value} {ns ms : List Int} (i : Nat), IntsAre xs ns → IntsAre ys ms → ns.length = ms.length → Fits B S ns → Fits B S ms → Q (decide (rank B S ns < rank B S ms)) s → PySem.W.KatLex prog w A b false Q (xs.zip ys) i s
  | _, _, _, _, i, .nil, .nil, _, _, _, h => by
    rw [decide_eq_false (Int.lt_irrefl _)] at h
    exact PySem.W.kat_nil h
  | _, _, _, _, _, .nil, .cons _ _ _, hl, _, _, _ => by simp at hl
  | _, _, _, _, _, .cons _ _ _, .nil, hl, _, _, _ => by simp at hl
  | _, _, _, _, i, .cons p t hx, .cons q u hy, hl, h1, h2, h => by
    have hl2 := Nat.succ.inj hl
    refine PySem.W.kat_cons (wpAny_eqBool_int ?_)
    by_cases e : p = q
    · subst e
      rw [beq_self_eq_true]
      refine PySem.W.kat_yes (lex (i + 1) hx hy hl2 (TS.Bd.tail (d := p + S) h1) (TS.Bd.tail (d := p + S) h2) ?_)
      have z : ∀ {r q : List Int}, r.length = q.length → (rank B S (p :: r) < rank B S (p :: q) ↔ rank B S r < rank B S q) := fun {r q} e => TS.code_same (d := p + S) (by rw [List.length_map, List.length_map]; exact e)
      rw [decide_eq_decide.mpr (z hl2)] at h
      exact h
    · rw [show (p == q) = false from beq_eq_false_iff_ne.mpr e]
      refine PySem.W.kat_no (TS.oneLt_ints _ ?_)
      rw [← decide_eq_decide.mpr (rank_head hl2 h1 h2 e)]
      exact h
theorem heads {h : Heap} {d : Nat} {B S : Int} (hd : 1 ≤ d) : ∀ vs : List Value, AllFit h d B S vs → ∃ fs, PySem.W.KatTups h vs fs ∧ fs.length = vs.length ∧ ∀ f ∈ fs, ∃ n t, f = Value.int n t
  | [], _ => ⟨[], .nil, rfl, fun _ z => nomatch z⟩
  | v :: vs, x => by
    obtain ⟨fs, k, hl, hi⟩ := heads hd vs fun u hu => x u (List.mem_cons_of_mem _ hu)
    obtain ⟨ns, ⟨a, xs, rfl, ⟨o, ho, hc, n, hdt⟩, i⟩, hn, _⟩ := x v List.mem_cons_self
    obtain ⟨its⟩ := xs
    have i : IntsAre its ns := i
    cases i with
    | nil => exact absurd hn (by show ¬ 0 = d; omega)
    | cons m t i => exact ⟨Value.int m t :: fs, PySem.W.KatTups.cons ho hc hdt rfl k, congrArg (· + 1) hl, fun f hf => (List.mem_cons.mp hf).elim (fun e => ⟨m, t, e⟩) (hi f)⟩
theorem sort_kind {d : Nat} {B S : Int} {vs : List Value} (hd : 1 ≤ d) (h2 : 2 ≤ vs.length) (x : AllFit s.heap d B S vs) (r : Value → Int) (hr : ∀ v ∈ vs, ∀ ns, TS.TupInts s.heap v ns → r v = rank B S ns) (Q : SortKind → Shared → Prop)
    (h : ∀ κ, TS.Cmp prog w A s κ (pairsOf vs) r → Q κ s) : wpAny (model prog w) A (keyKind' vs.toArray) Q E s := by
  obtain ⟨fs, k, hl, hi⟩ := heads hd vs x
  refine PySem.W.kat_kind (T := Value.type "int") k (by omega) (fun f hf => ?_) rfl (h _ fun p q hp hq R F hR => ?_)
  · obtain ⟨n, t, rfl⟩ := hi f hf
    exact PySem.W.Looks.of_pure rfl
  · rw [pairsOf_toList] at hp hq
    have mp := (mem_zip_self hp).2
    have mq := (mem_zip_self hq).2
    obtain ⟨ns, tp, lp, bp⟩ := x _ mp
    obtain ⟨ms, tq, lq, bq⟩ := x _ mq
    rw [hr _ mp _ tp, hr _ mq _ tq] at hR
    obtain ⟨a, xs, e1, ⟨o, ho, _, n, od⟩, ia⟩ := tp
    obtain ⟨b, ys, e2, ⟨u, hu, _, m, ud⟩, ib⟩ := tq
    rw [e1, e2]
    refine PySem.W.kat_lt ho od hu ud ?_
    have sx : xs.size = d := by have := ia.length; rw [Array.length_toList] at this; omega
    have sy : ys.size = d := by have := ib.length; rw [Array.length_toList] at this; omega
    rw [decide_eq_false (by omega : ¬ xs.size < ys.size)]
    exact lex 0 ia ib (by omega) bp bq hR
/-- the heap behind collect of the items vs -/
abbrev got (h : Heap) (vs : List Value) : Heap := (h.push (seqObj "list" #[] 0)).update h.objs.size (Obj.mapSeq fun x => x ++ vs.toArray)
/-- a tuple stands where it stood, two objects later -/
theorem later {h : Heap} {vs : List Value} {b : Addr} {o : Obj} (e : h.get? b = some o) : ((got h vs).push (seqObj "list" vs.toArray 0)).get? b = some o := by
  have lt := Heap.lt_size e
  have size : (got h vs).objs.size = h.objs.size + 1 := by rw [Heap.size_update, size_push']
  rw [Heap.get?_push_ne _ _ _ (show b ≠ (got h vs).objs.size by rw [size]; exact Nat.ne_of_lt (Nat.lt_succ_of_lt lt)), Heap.get?_update_ne _ _ _ _ (Nat.ne_of_lt lt), Heap.get?_push_ne _ _ _ (Nat.ne_of_lt lt)]
  exact e
/-- the tail of sorted(): a fresh list of the items is sorted -/
theorem sort_fresh {vs : List Value} {d : Nat} {B S : Int} {P : PySem.Fin → Shared → Prop} {h0 : Heap} {a : Addr} (there : h0.get? a = some (seqObj "list" vs.toArray 0)) (hn : vs.length < 64) (hd : 1 ≤ d) (ok : AllFit h0 d B S vs)
    (h : ∀ out : Array Value, out.toList.Perm vs → P (.done (.ret .none)) { s with heap := sortedHeap h0 a vs out }) : wpAny (model prog w) A (Builtin.«list.sort» ⟨[.ref a], []⟩) P E { s with heap := h0 } := by
  have keep : ∀ b o, h0.get? b = some o → o.cls = .type "tuple" → (TS.midHeap h0 a vs).get? b = some o := fun b o e hc => by
    refine TS.midHeap_old ?_ e
    rintro rfl
    rw [there] at e
    have e' := Option.some.inj e
    rw [← e'] at hc
    have c' : Value.type "list" = Value.type "tuple" := hc
    injection c' with c2
    exact absurd c2 (by decide)
  refine SK.plain_sort (s := { s with heap := h0 }) (r := fun v => rank B S (TS.intsOf (TS.midHeap h0 a vs) v)) there hn (fun h2 Q hQ => ?_) fun ps out h1 h2 _ => h out ?_
  · refine sort_kind (s := { s with heap := TS.midHeap h0 a vs }) hd h2 (ok.later keep) _ (fun v hv ns t => ?_) Q hQ
    show rank B S (TS.intsOf (TS.midHeap h0 a vs) v) = rank B S ns
    rw [t.ints]
  · rw [h1]
    have z := h2.map Prod.snd
    rw [List.map_snd_zip (Nat.le_refl _)] at z
    exact z
/-- sorted() of a list or a tuple, behind the collecting -/
theorem sorted_any {v : Value} {vs : List Value} {d : Nat} {B S : Int} {Q : Value → Shared → Prop} (hc : ∀ (R : List Value → Shared → Prop), R vs { s with heap := got s.heap vs } → wpAny (model prog w) A.in1 (collect v) R E s) (hn : vs.length < 64) (hd : 1 ≤ d) (ok : AllFit s.heap d B S vs)
    (h : ∀ out : Array Value, out.toList.Perm vs → Q (.ref (s.heap.objs.size + 1)) { s with heap := sortedAll s.heap vs out }) : wpAny (model prog w) A (call (.builtin "sorted") [v]) Q E s := by
  have size : (got s.heap vs).objs.size = s.heap.objs.size + 1 := by rw [Heap.size_update, size_push']
  have there : ((got s.heap vs).push (seqObj "list" vs.toArray 0)).get? (s.heap.objs.size + 1) = some (seqObj "list" vs.toArray 0) := size ▸ Heap.get?_push_size _ rfl
  apply Calls.call_function_entry kind_sorted plain_sorted entry_sorted (args_sorted1 _)
  unfold Builtin.«sorted»
  apply wpAny_bind (m := checkCount "sorted" 1 1 _)
  apply wpAny_pure
  apply wpAny_bind
  apply hc
  apply wpAny_bind
  refine wpAny_newList ?_ (by rw [sizeLine_eq]; omega)
  change wpAny _ _ _ _ _ { s with heap := (got s.heap vs).push (seqObj "list" vs.toArray 0) }
  rw [size]
  apply wpAny_bind
  apply wpAny_holding
  refine wpAny_call_entry slot_list_sort ⟨_, there, rfl⟩ entry_list_sort ?_ (args_list_sort _)
  exact sort_fresh there hn hd (ok.later fun b o e _ => later e) fun out p => ⟨_, rfl, wpAny_pure ⟨_, rfl, h out p⟩⟩
/-- the items of a tuple, collected -/
theorem collect_tup {t : Addr} {vs : List Value} {Q : List Value → Shared → Prop} (ht : s.heap.IsTuple t vs.toArray) (hn : vs.length < 64) (h : Q vs { s with heap := got s.heap vs }) : wpAny (model prog w) A (collect (.ref t)) Q E s := by
  have fresh : (s.heap.push (seqObj "list" #[] 0)).get? s.heap.objs.size = some (seqObj "list" #[] 0) := Heap.get?_push_size _ rfl
  rcases ht with ⟨o, ho, hc, n, hd⟩
  have old := Heap.get?_push_of_some (seqObj "list" #[] 0) ho
  have room : ((#[] : Array Value) ++ vs.toArray).size ≤ sizeLine + 1 := by
    rw [sizeLine_eq, Array.size_append, List.size_toArray, List.size_toArray, List.length_nil]; omega
  unfold collect
  apply wpAny_bind
  apply wpAny_runValue
  apply codeAny_builtin entry_proto_collect'
  show wpAny _ _ (newList [] >>= fun r => again (.builtin "list.__iadd__" ⟨[r, .ref t], []⟩)) _ _ s
  apply wpAny_bind
  refine wpAny_newList ?_
  apply wpAny_pure
  constructor
  · exact Code.quiet_builtin _ (by decide +kernel)
  apply codeAny_builtin entry_list_iadd'
  change wpAny _ _ (Builtin.List.listExtendWith (.ref s.heap.objs.size) (.ref t) (.ref s.heap.objs.size)) _ _ { s with heap := _ }
  unfold Builtin.List.listExtendWith
  apply wpAny_bind
  refine wpAny_typeOf (T := "tuple") ⟨o, old, hc⟩ ?_
  have both : (Value.type "tuple" == Value.type "tuple") = true := rfl
  simp only [both, Bool.or_true, if_true]
  apply wpAny_bind
  apply listItems_at old hd
  apply wpAny_bind
  apply listItems_at fresh rfl
  rw [if_neg (by simp)]
  apply wpAny_bind
  refine listUpdate_at fresh rfl ?_ (Nat.zero_le _) room
  apply wpAny_pure
  change wpAny _ _ (load s.heap.objs.size >>= fun q => match q.data with | .seq xs _ => pure xs.toList | _ => unsupported "internal:collect") _ _ { s with heap := got s.heap vs }
  apply wpAny_bind
  apply wpAny_load (get?_update_seq fresh _)
  have same : ((#[] : Array Value) ++ vs.toArray).toList = vs := by simp
  change wpAny _ _ (pure ((#[] : Array Value) ++ vs.toArray).toList) _ _ _
  rw [same]
  exact wpAny_pure h
/-- the items of a list, collected -/
theorem collect_lst {l : Addr} {vs : List Value} {Q : List Value → Shared → Prop} (hl : s.heap.IsList l vs.toArray) (hn : vs.length < 64) (h : Q vs { s with heap := got s.heap vs }) : wpAny (model prog w) A (collect (.ref l)) Q E s :=
  collect_list hl h (by rw [sizeLine_eq]; omega)
end
end SortNg
namespace L2
open PySem PySem.Spec PyProof.Rows
section
variable {X : Cx}
/-- sorted(xs), of tuples of d ints that fit: the same items in some order -/
def rSortN (K : PySem.W.Frag) (d : Nat) (B S : Int) : List V → Hp → VK → Prop := fun vs H Q => ∃ (a : Addr) (xs : List V), vs = [V.ref a] ∧ (SqL K H a xs ∨ SqT K H a xs) ∧ xs.length < 64 ∧ (∀ x ∈ xs, ∃ ns, TupI K H x ns ∧ ns.length = d ∧ SortNg.Fits B S ns) ∧
  ∀ (ys : List V) (p : Addr), ys.Perm xs → H p = none → Q (.ref p) (upd H p (.lst ys))
theorem cr_sortN {d : Nat} {B S : Int} (hd : 1 ≤ d) : CallR X (.builtin "sorted") (rSortN X.K d B S) := by
  intro pins s σ H vs us Q I r ⟨a, xs, ev, hq, hn, hx, q⟩
  subst ev
  obtain ⟨us2, ru, hc⟩ : ∃ us2 : List Value, Vals xs us2 ∧ (s.heap.IsList a us2.toArray ∨ s.heap.IsTuple a us2.toArray) := by
    rcases hq with hq | hq
    · obtain ⟨its, rv, hl, _⟩ := I.list hq
      exact ⟨its, rv, .inl hl.isList⟩
    · obtain ⟨its, rv, hl, _⟩ := I.tuple hq
      exact ⟨its, rv, .inr hl⟩
  have isRef : ∀ x ∈ xs, ∃ t, x = V.ref t := fun x m => let ⟨_, ⟨t, e, _⟩, _⟩ := hx x m; ⟨t, e⟩
  obtain ⟨exs, rus⟩ := bkV_refs ru isRef
  have hn2 : us2.length < 64 := ru.length ▸ hn
  rw [Vals.ref1 r]
  refine SortNg.sorted_any (d := d) (B := B) (S := S) (vs := us2) (fun R h => ?_) hn2 hd (fun v hv => ?_) fun out perm => ?_
  · rcases hc with hc | hc
    · exact SortNg.collect_lst hc hn2 h
    · exact SortNg.collect_tup hc hn2 h
  · obtain ⟨t, rfl⟩ := rus v hv
    have m : V.ref t ∈ xs := exs ▸ List.mem_map.mpr ⟨_, hv, rfl⟩
    obtain ⟨ns, ⟨t2, e2, ht⟩, hl, hb⟩ := hx _ m
    cases e2
    exact ⟨ns, tupI_raw I ht, hl, hb⟩
  · obtain ⟨ep, at_⟩ := PyProof.Rows.sortedAll_at s.heap us2 out
    have refs : ∀ u ∈ out.toList, ∃ b, u = Value.ref b := fun u hu => rus u (perm.mem_iff.mp hu)
    have pm : (out.toList.map bkV).Perm xs := exs ▸ perm.map bkV
    have small : (out.toList.map bkV).length ≤ sizeLine := Nat.le_trans (Nat.le_of_lt (pm.length_eq ▸ hn)) (by decide)
    refine ⟨.ref (s.heap.objs.size + 1), upd H (s.heap.objs.size + 1) (.lst (out.toList.map bkV)), ?_, rfl, q _ _ pm (I.hok.fresh (Nat.le_succ _))⟩
    exact I.laid (t' := s.toks) (fun _ _ => PyProof.Rows.sortedAll_old) (Nat.le_succ _) ⟨small, out.toList, ep, bkV_vals refs, at_⟩
end
end L2

namespace K40
open PySem PySem.Spec PyProof.Rows L2 Rg PySem.RingX
open Fm hiding D
section
variable {P : Program} {w : World} {K : PySem.W.Frag} {mg : Str → Option Value} {base : Heap}
/-- what is there is among the rows, or what is handed -/
def Owed (ds : List D) (e : D) (es : List D) : Prop := (∀ d ∈ es, itemD d = true ∧ (d ∈ ds ∨ d = e)) ∧ es.length ≤ ds.length + 1
def spOwed (K : PySem.W.Frag) : Sp := fun vs H Q _ => ∃ (k : Str) (a : Addr) (ds : List D) (v : V) (e : D), vs = [.str k, .ref a, v] ∧ Dp K H (.ref a) (.tuple ds) ∧ ringL ds = true ∧ ds.length ≤ 1000 ∧ Dp K H v e ∧ HandB k ds e = true ∧
  ∀ (p : Addr) (ys : List V) (es : List D) (H' : Hp), H' p = some (.lst ys) → DpAll K H' ys es → Owed ds e es → Same H H' → Q (.ref p) H'
def nOwed : List Str := ["kind", "ring", "handed", "key", "others", "item"]
theorem scOwed : FnScope nOwed ["kind", "ring", "handed"] (defScope s_owed_items) := ⟨rfl, rfl, rfl, by decide +kernel, rfl, by decide +kernel, by decide +kernel⟩
theorem filt_sub {ds : List D} {q : D → Bool} {d : D} (h : d ∈ (ds.filter isT).filter q) : d ∈ ds ∧ isT d = true := List.mem_filter.mp (List.mem_filter.mp h).1
theorem ok_owed {CR : Addr} (R : Raw K mg "owed_items" s_owed_items ["kind", "ring", "handed"]) (DA : Def P w K mg base (L2.CX P w) "all_items" 7 ["ring"] (spAll K CR)) :
    Def P w K mg base (L2.CX P w) "owed_items" 8 ["kind", "ring", "handed"] (spOwed K) := by
  obtain ⟨fA, dA, GA, gA, kA, bA⟩ := DA
  refine R.def fun f fd F => F.okX scOwed (fun vs H Q E h => ?_) (fun cdv A outer s H vs Q E hr h => ?_)
  · obtain ⟨k, a, ds, v, e, rfl, _⟩ := h
    rfl
  · obtain ⟨k, a, ds, v, e, rfl, dr, hring, hlen, dv, hh, q⟩ := h
    obtain ⟨a', xs, e0, sq, dp⟩ := dp_tup dr
    cases e0
    obtain ⟨tT, pT, qT⟩ : ∃ tT, PSs (cxOf (L2.CX P w) P w K mg base nOwed "owed_items" (defScope s_owed_items) f cdv A outer s H E) ((defBody s_owed_items).drop 1) tT ∧
        ∀ (D : Ends) (key : Int), D.rt = Q → tT D [some (.str k), some (.ref a), some v, some (.int key), none, none] H := by
      refine ⟨_, pss_cons (ps_setLc (i := 4) (own := [("item", 5)]) (g := gName 5) rfl scOwed.nd rfl rfl (by rfl) (pi_tup (pe_call (E := E) GA hr (by rfl) gA kA bA .nil (passes_call (takes_of rfl rfl rfl rfl) (fun _ _ _ _ z => z)) (pa_cons (pv 1) pa_nil))) (blkOk_by (own := [("item", 5)]) (N := nOwed) (sc := defScope s_owed_items) (by decide +kernel))
          (fun _ _ _ _ _ => pg_name (i := 5) scOwed.nd rfl (Or.inl rfl)) (fun _ _ _ _ _ => pts_one (pt_cmpR (show OpR _ _ rNe from op_ne) (pe_ix (show IxR _ (rIxT K) from ix_tup) (pv 5) pe_int (fun _ _ => rfl)) (pv 3) (nomark _))) (fun _ _ _ _ _ => pv 5))
        (pss_one (ps_ret (pe_ifExp (pt_cmpR op_in_seq (pv 0) (pe_tup (pa_cons pe_str (pa_cons pe_str pa_nil))) (by rfl)) (pe_op op_cat (pv 4) (pe_lst (pa_cons (pv 2) pa_nil))) (pv 4)))), ?_⟩
      intro D key hD
      have sD : Short (.tuple ds) := fun ds' e1 => by cases e1; exact hlen
      refine ⟨_, rfl, .ref a, .tuple ds, rfl, dr, sD, fun ds' e1 _ x H3 dx s3 => ?_, fun zz => by rw [show ringD (.tuple ds) = ringL ds from rfl, hring] at zz; cases zz⟩
      cases e1
      obtain ⟨t, xs2, rfl, sq2, dp2⟩ := dp_tup dx
      let q0 : Rg.D → Bool := fun d => !decide (V.int (keyD d) = V.int key)
      refine ⟨t, rfl, ⟨_, sq2⟩, fun A0 hA0 => lc_tup (K := K) (a := t) (xs := xs2) (fun i H' => Same H3 H' ∧ ∃ ys, H' A0 = some (.lst ys) ∧ DpAll K H3 ys (((ds.filter isT).take i).filter q0)) ⟨same_upd hA0, [], upd_same, .nil⟩ (fun i H' _ h => h.1.sqT sq2) ?_ ?_⟩
      · rintro i x H4 hx ⟨s4, ys, h4, d4⟩
        obtain ⟨d, hd, dx2⟩ := dp_at dp2 hx
        have dm := List.mem_filter.mp (List.mem_of_getElem? hd)
        obtain ⟨k', x', m', rfl, _⟩ := item_parts (row_item (List.all_eq_true.mp (ring_rows hring) _ dm.1) dm.2)
        obtain ⟨a2, rfl, q2⟩ := dp_item dx2
        have tk : ((ds.filter isT).take (i + 1)).filter q0 = ((ds.filter isT).take i).filter q0 ++ (if (!decide (V.int k' = V.int key)) = true then [.tuple [.int k', .int x', .int m']] else []) := by
          rw [take_more hd, List.filter_append, List.filter_cons, List.filter_nil]
          rfl
        refine ⟨rfl, _, rfl, a2, _, 0, .int k', rfl, rfl, s4.sqT q2, rfl, _, rfl, rfl, _, rfl, ?_⟩
        cases ck : (!decide (V.int k' = V.int key)) with
        | true =>
          rw [ck, if_pos rfl] at tk
          refine iteT ⟨_, rfl, _, h4, ?_, fun y o hy => ?_, ys ++ [.ref a2], upd_same, ?_⟩
          · have l1 := List.length_filter_le q0 ((ds.filter isT).take i)
            have l2 := List.length_filter_le isT ds
            rw [List.length_take] at l1
            rw [d4.length, sizeLine_eq]; omega
          · rw [upd_ne (ne_of_none hy hA0)]; exact s4 y o hy
          · rw [tk]; exact DpAll.snoc d4 dx2
        | false =>
          rw [ck, if_neg (by decide), List.append_nil] at tk
          exact iteF ⟨s4, ys, h4, by rw [tk]; exact d4⟩
      · rintro H4 ⟨s4, ys, h4, d4⟩
        rw [dp2.length, List.take_length] at d4
        have d4' := d4.keep s4
        have s34 := s3.trans s4
        have mem : ∀ d ∈ (ds.filter isT).filter q0, itemD d = true ∧ (d ∈ ds ∨ d = e) := fun d hd => by
          obtain ⟨h1, h2⟩ := filt_sub hd
          exact ⟨row_item (List.all_eq_true.mp (ring_rows hring) _ h1) h2, .inl h1⟩
        have len : ((ds.filter isT).filter q0).length ≤ ds.length := Nat.le_trans (List.length_filter_le _ _) (List.length_filter_le _ _)
        refine ⟨_, rfl, (by show 2 ≤ sizeLine; decide), fun t2 ht2 => ?_⟩
        have s5 := @same_upd _ t2 (.tup [V.str "put", V.str "set"]) ht2
        refine ⟨t2, _, rfl, .inr (SqT.of upd_same), rfl, by kernel_rfl, _, rfl, ?_⟩
        show if putSet k = true then _ else _
        have s345 := s34.trans s5
        cases hk : putSet k with
        | false =>
          refine iteF ⟨_, rfl, ?_⟩
          rw [hD]
          exact q A0 ys _ _ (s5 _ _ h4) (d4'.keep s5) ⟨mem, by omega⟩ s345
        | true =>
          have ke : k ≠ "take" := fun z => by rw [z] at hk; exact absurd hk (by decide +kernel)
          have ie : itemD e = true := by
            unfold HandB at hh
            rw [if_neg ke, if_pos hk] at hh
            exact (Bool.and_eq_true_iff.mp hh).1
          refine iteT ⟨_, rfl, _, rfl, (by show 1 ≤ sizeLine; decide), fun t3 ht3 => ?_⟩
          have s6 := @same_upd _ t3 (.lst [v]) ht3
          refine ⟨A0, t3, ys, [v], rfl, rfl, s6 _ _ (s5 _ _ h4), upd_same, ?_, fun t4 ht4 => ?_⟩
          · rw [d4.length, sizeLine_eq]
            show _ + 1 ≤ _
            omega
          · rw [hD]
            have s7 := @same_upd _ t4 (.lst (ys ++ [v])) ht4
            refine q t4 (ys ++ [v]) (((ds.filter isT).filter q0) ++ [e]) _ upd_same (DpAll.snoc (((d4'.keep s5).keep s6).keep s7) (dv.keep ((s345.trans s6).trans s7))) ⟨fun d hd => ?_, by rw [List.length_append]; show _ + 1 ≤ _; omega⟩ ((s345.trans s6).trans s7)
            rcases List.mem_append.mp hd with hd | hd
            · exact mem d hd
            · rw [List.mem_singleton.mp hd]
              exact ⟨ie, .inr rfl⟩
    refine ⟨_, pss_cons (ps_set (i := 3) scOwed.nd rfl (Or.inr rfl) (pe_ifExp (pt_cmpR op_eq (pv 0) pe_str (nomark _)) (pe_ix ix_tup (pe_ix ix_tup (pv 1) (pv 2) (fun _ _ => rfl)) pe_int (fun _ _ => rfl)) (pe_ix ix_tup (pv 2) pe_int (fun _ _ => rfl)))) pT, ?_⟩
    refine ⟨_, rfl, rfl, _, rfl, ?_⟩
    by_cases c : k = "take"
    · rw [decide_eq_true (congrArg V.str c)]
      unfold HandB at hh
      rw [if_pos c] at hh
      cases e with
      | int i =>
        cases dv
        have hh : (decide (0 ≤ i) && (decide (i < ds.length) && isT (row ds i))) = true := hh
        simp only [Bool.and_eq_true, decide_eq_true_eq] at hh
        obtain ⟨i0, i1, it⟩ := hh
        obtain ⟨u, hu1, hu2⟩ := dp_row dp i (by omega) (by rw [dp.length]; exact i1)
        have ri : row ds i ∈ ds := by
          have := row_get? (ds := ds) (i := i.toNat) (by omega)
          rw [Int.toNat_of_nonneg i0] at this
          exact List.mem_of_getElem? this
        obtain ⟨k', x', m', er, _⟩ := item_parts (row_item (List.all_eq_true.mp (ring_rows hring) _ ri) it)
        rw [er] at hu2
        obtain ⟨a2, rfl, q2⟩ := dp_item hu2
        refine iteT ⟨_, rfl, _, rfl, a, _, i, .ref a2, rfl, rfl, sq, hu1, a2, _, 0, .int k', rfl, rfl, q2, rfl, ?_⟩
        exact qT _ k' rfl
      | _ => cases hh
    · rw [decide_eq_false fun z => c (V.str.inj z)]
      unfold HandB at hh
      rw [if_neg c] at hh
      obtain ⟨bh, r, rfl, sh⟩ := handed_parts (Bool.and_eq_true_iff.mp hh).1 dv
      refine iteF ⟨_, rfl, bh, _, 0, .int (keyD e), rfl, rfl, sh, atI_nat (j := 0) rfl, ?_⟩
      exact qT _ (keyD e) rfl
end
end K40

namespace K40
open PySem PySem.Spec PyProof.Rows L2 Rg PySem.RingX
open Fm hiding D
/-! ## what is owed against what is left -/
def numsD : D → List Int | .tuple [.int k, .int x, .int m] => [k, x, m] | _ => []
def magD : D → Nat | .tuple [.int k, .int x, .int m] => k.natAbs + x.natAbs + m.natAbs | _ => 0
theorem mag_le {d : D} : ∀ {es : List D}, d ∈ es → magD d ≤ (es.map magD).sum
  | e :: r, h => by
    rw [List.map_cons, List.sum_cons]
    rcases List.mem_cons.mp h with rfl | h
    · omega
    · have := mag_le h
      omega
theorem fits_ex (es : List D) : ∃ B S, ∀ d ∈ es, itemD d = true → SortNg.Fits B S (numsD d) ∧ (numsD d).length = 3 := by
  refine ⟨2 * ((es.map magD).sum : Nat) + 1, ((es.map magD).sum : Nat), fun d hd hi => ?_⟩
  have hm := mag_le hd
  obtain ⟨k, x, m, rfl, _⟩ := item_parts hi
  have hm : k.natAbs + x.natAbs + m.natAbs ≤ (es.map magD).sum := hm
  generalize (es.map magD).sum = T at hm ⊢
  refine ⟨fun z hz => ?_, rfl⟩
  have hz : z ∈ [k + (T : Int), x + (T : Int), m + (T : Int)] := hz
  simp only [List.mem_cons, List.not_mem_nil, or_false] at hz
  rcases hz with rfl | rfl | rfl <;> omega
theorem tup_nums {K : PySem.W.Frag} {H : Hp} {v : V} {d : D} (h : itemD d = true) (dp : Dp K H v d) : TupI K H v (numsD d) := by
  obtain ⟨k, x, m, rfl, _⟩ := item_parts h
  obtain ⟨a, rfl, q⟩ := dp_item dp
  exact ⟨a, rfl, q⟩
theorem dpAll_mem {K : PySem.W.Frag} {H : Hp} : ∀ {xs : List V} {ds : List D} {x : V}, DpAll K H xs ds → x ∈ xs → ∃ d ∈ ds, Dp K H x d
  | _, _, _, .nil, h => nomatch h
  | _, _, _, .cons h t, m => by
    rcases List.mem_cons.mp m with e | m
    · subst e; exact ⟨_, List.mem_cons_self, h⟩
    · obtain ⟨d, h1, h2⟩ := dpAll_mem t m
      exact ⟨d, List.mem_cons_of_mem _ h1, h2⟩
theorem dpAll_perm {K : PySem.W.Frag} {H : Hp} {xs ys : List V} (p : ys.Perm xs) : ∀ {ds : List D}, DpAll K H xs ds → ∃ es, DpAll K H ys es ∧ es.Perm ds := by
  induction p with
  | nil => intro ds h; exact ⟨ds, h, .refl _⟩
  | cons x _ ih =>
    intro ds h
    cases h with
    | cons h t =>
      obtain ⟨es, h1, h2⟩ := ih t
      exact ⟨_ :: es, .cons h h1, h2.cons _⟩
  | swap x y l =>
    intro ds h
    cases h with
    | cons h1 t => cases t with
      | cons h2 t => exact ⟨_, .cons h2 (.cons h1 t), .swap _ _ _⟩
  | trans _ _ ih1 ih2 =>
    intro ds h
    obtain ⟨es, h1, h2⟩ := ih2 h
    obtain ⟨fs, h3, h4⟩ := ih1 h1
    exact ⟨fs, h3, h4.trans h2⟩
theorem items_shape {es : List D} (h : ∀ d ∈ es, itemD d = true) : SeqAt.shaped (.list es) = true := by
  obtain ⟨h1, h2⟩ := rows_shape (ds := es) fun d hd => row_shape (by unfold rowD; rw [h d hd, Bool.or_true])
  unfold SeqAt.shaped
  simp only [PyData.canLay0, PyData.depth, h1, Bool.true_and]
  exact decide_eq_true (by omega)
section
variable {P : Program} {w : World} {K : PySem.W.Frag} {mg : Str → Option Value} {base : Heap}
/-- some truth comes -/
def AnyB (H : Hp) (Q : VK) : Prop := ∀ (b : Bool) H', Same H H' → Q (.bl b) H'
def spLeaves (K : PySem.W.Frag) : Sp := fun vs H Q _ => ∃ (k : Str) (a l : Addr) (ds : List D) (v : V) (e : D), vs = [.str k, .ref a, v, .ref l] ∧ Dp K H (.ref a) (.tuple ds) ∧ Dp K H (.ref l) (.tuple ds) ∧ ringL ds = true ∧ ds.length ≤ 60 ∧ Dp K H v e ∧ HandB k ds e = true ∧ AnyB H Q
def nLv : List Str := ["kind", "ring", "handed", "left"]
theorem scLv : FnScope nLv nLv (defScope s_leaves_owed) := ⟨rfl, rfl, rfl, by decide +kernel, rfl, by decide +kernel, by decide +kernel⟩
theorem ok_leaves {CR : Addr} (R : Raw K mg "leaves_owed" s_leaves_owed nLv) (hs : mg "sorted" = none) (DA : Def P w K mg base (L2.CX P w) "all_items" 7 ["ring"] (spAll K CR)) (DO : Def P w K mg base (L2.CX P w) "owed_items" 8 ["kind", "ring", "handed"] (spOwed K)) :
    Def P w K mg base (L2.CX P w) "leaves_owed" 9 nLv (spLeaves K) := by
  obtain ⟨fA, dA, GA, gA, kA, bA⟩ := DA
  obtain ⟨fO, dO, GO, gO, kO, bO⟩ := DO
  refine R.def fun f fd F => F.okX scLv (fun vs H Q E h => ?_) (fun cdv A outer s H vs Q E hr h => ?_)
  · obtain ⟨k, a, l, ds, v, e, rfl, _⟩ := h
    rfl
  · obtain ⟨k, a, l, ds, v, e, rfl, dr, dl, hring, hlen, dv, hh, q⟩ := h
    have hr7 : Room 7 _ := hr.mono (by decide)
    have hu := Room.units hr
    obtain ⟨B, S, fit⟩ := fits_ex (e :: ds)
    refine ⟨_, pss_cons (ps_if (pt_cmpR op_eq (pv 0) pe_str (nomark _)) (pss_one (ps_ret (pe_cmpR (op_eqD hu) (pv 3) (pv 1) (nomark _)))) pss_nil)
      (pss_one (ps_ret (pe_cmpR (op_eqD hu) (pe_callB (cr_sortN (d := 3) (B := B) (S := S) (by decide)) (by rfl) hs (by decide +kernel) (pa_cons (pe_call (E := E) GA hr7 (by rfl) gA kA bA .nil (passes_call (takes_of rfl rfl rfl rfl) (fun _ _ _ _ z => z)) (pa_cons (pv 3) pa_nil)) pa_nil))
        (pe_callB (cr_sortN (d := 3) (B := B) (S := S) (by decide)) (by rfl) hs (by decide +kernel) (pa_cons (pe_call (E := E) GO hr (by rfl) gO kO bO .nil (passes_call (takes_of rfl rfl rfl rfl) (fun _ _ _ _ z => z)) (pa_cons (pv 0) (pa_cons (pv 1) (pa_cons (pv 2) pa_nil)))) pa_nil)) (by rfl)))), ?_⟩
    refine ⟨_, rfl, rfl, _, rfl, ?_⟩
    by_cases c : k = "find"
    · rw [decide_eq_true (congrArg V.str c)]
      exact iteT ⟨_, rfl, _, rfl, .tuple ds, .tuple ds, dl, dr, ring_shape hring, ring_shape hring, q _ _ (Same.refl _)⟩
    · rw [decide_eq_false fun z => c (V.str.inj z)]
      have sD : Short (.tuple ds) := fun ds' e1 => by cases e1; omega
      refine iteF ⟨_, rfl, .ref l, .tuple ds, rfl, dl, sD, fun ds' e1 _ x H1 dx s1 => ?_, fun zz => by rw [show ringD (.tuple ds) = ringL ds from rfl, hring] at zz; cases zz⟩
      cases e1
      obtain ⟨t, xs2, rfl, sq2, dp2⟩ := dp_tup dx
      have it : ∀ d ∈ ds.filter isT, itemD d = true := fun d hd => row_item (List.all_eq_true.mp (ring_rows hring) _ (List.mem_filter.mp hd).1) (List.mem_filter.mp hd).2
      have l1 := List.length_filter_le isT ds
      refine ⟨t, xs2, rfl, .inr sq2, by rw [dp2.length]; omega, fun x hx => ?_, fun ys p pm hp => ?_⟩
      · obtain ⟨d, hd, dd⟩ := dpAll_mem dp2 hx
        obtain ⟨f1, f2⟩ := fit d (List.mem_cons_of_mem _ (List.mem_filter.mp hd).1) (it d hd)
        exact ⟨numsD d, tup_nums (it d hd) dd, f2, f1⟩
      · obtain ⟨es1, de1, pe1⟩ := dpAll_perm pm dp2
        have s2 := @same_upd _ p (.lst ys) hp
        have h2 : upd H1 p (.lst ys) p = some (.lst ys) := upd_same
        generalize upd H1 p (.lst ys) = H2 at s2 h2 ⊢
        have s12 := s1.trans s2
        have de2 := de1.keep s2
        refine ⟨_, rfl, _, rfl, _, rfl, k, a, ds, v, e, rfl, dr.keep s12, hring, by omega, dv.keep s12, hh, fun p3 ys3 es3 H3 h3 d3 ow s3 => ?_⟩
        obtain ⟨ow1, ow2⟩ := ow
        refine ⟨p3, ys3, rfl, .inl (SqL.of h3), by rw [d3.length]; omega, fun x hx => ?_, fun ys4 p4 pm4 hp4 => ?_⟩
        · obtain ⟨d, hd, dd⟩ := dpAll_mem d3 hx
          obtain ⟨i1, i2⟩ := ow1 d hd
          obtain ⟨f1, f2⟩ := fit d (i2.elim (fun z => List.mem_cons_of_mem _ z) fun z => by rw [z]; exact List.mem_cons_self) i1
          exact ⟨numsD d, tup_nums i1 dd, f2, f1⟩
        · obtain ⟨es4, de4, pe4⟩ := dpAll_perm pm4 d3
          have s4 := @same_upd _ p4 (.lst ys4) hp4
          have h4 : upd H3 p4 (.lst ys4) p4 = some (.lst ys4) := upd_same
          generalize upd H3 p4 (.lst ys4) = H4 at s4 h4 ⊢
          have s34 := s3.trans s4
          exact ⟨.list es1, .list es4, .lst (SqL.of (s34 _ _ h2)) (de2.keep s34), .lst (SqL.of h4) (de4.keep s4), items_shape fun d hd => it d (pe1.mem_iff.mp hd), items_shape fun d hd => (ow1 d (pe4.mem_iff.mp hd)).1, q _ _ (s12.trans s34)⟩
end
end K40

namespace L2
open PySem PySem.Spec PyProof.Rows
/-- a dict made by a comprehension over a list -/
theorem dc_list {K : PySem.W.Frag} {a : Addr} {xs : List V} {g : TG} {tt : TT} {tk tv : TE} {vs : List Nat} {σ : St} {H1 : Hp} {D : Addr} {Qd : Hp → Prop} (Pv : Nat → Hp → Prop) (h0 : Pv 0 (upd H1 D (.dK []))) (hl : ∀ i H, i ≤ xs.length → Pv i H → SqL K H a xs)
    (hs : ∀ i x H, xs[i]? = some x → Pv i H → g x (wipe σ vs) H fun σ2 H2 => wipe σ2 vs = wipe σ vs ∧ tt σ2 H2 fun b H3 =>
      if b = true then tk σ2 H3 fun y H4 => tv σ2 H4 fun z H5 => ∃ kvs k, y = kV k ∧ H5 D = some (.dK kvs) ∧ kvs.length < sizeLine ∧ Pv (i + 1) (upd H5 D (.dK (putK kvs k z))) else Pv (i + 1) H3) (hd : ∀ H, Pv xs.length H → Qd H) :
    ∃ W : Nat → Nat → Hp → Prop, (∃ m, W 0 m (upd H1 D (.dK []))) ∧ ∀ i m H, W i m H →
      ((Itl K a).stop i H ∧ Qd H) ∨ ((Itl K a).go i H ∧ ∃ Nx : Hp → Prop, (∀ H', Nx H' → ∃ m', m' < m ∧ W (i + 1) m' H') ∧ ∀ x H', (Itl K a).yld i H x H' → g x (wipe σ vs) H' fun σ2 H2 => wipe σ2 vs = wipe σ vs ∧ tt σ2 H2 fun b H3 =>
        if b = true then tk σ2 H3 fun y H4 => tv σ2 H4 fun z H5 => ∃ kvs k, y = kV k ∧ H5 D = some (.dK kvs) ∧ kvs.length < sizeLine ∧ Nx (upd H5 D (.dK (putK kvs k z))) else Nx H3) := by
  refine ⟨fun i m H => i + m = xs.length ∧ Pv i H, ⟨xs.length, Nat.zero_add _, h0⟩, fun i m H ⟨e, p⟩ => ?_⟩
  have q := hl i H (by omega) p
  match m with
  | 0 =>
    have e2 : i = xs.length := by omega
    subst e2
    exact .inl ⟨⟨xs, q, Nat.le_refl _⟩, hd H p⟩
  | m + 1 =>
    have lt : i < xs.length := by omega
    refine .inr ⟨⟨xs, xs[i], q, List.getElem?_eq_getElem lt⟩, Pv (i + 1), fun H' p' => ⟨m, Nat.lt_succ_self m, by omega, p'⟩, fun x H' ⟨e2, y⟩ => ?_⟩
    subst e2
    exact hs i x _ (y xs q) p
section
variable {X : Cx}
/-- y = {k: v for ..} -/
theorem ps_setDc {i : Nat} {y : Str} {py : Pos} {kx vx tg iter : Expr} {ifs : List Expr} {scope : Scope} {own : List (Str × Nat)} {pos spos : Pos} {wi : TI} {g : TG} {tt : TT} {tk tv : TE} (hc : X.calm = true) (hN : X.N.Nodup) (hy : X.N[i]? = some y) (hyl : X.env.scope.names.lookup y = some .local)
    (hsw : swapsWith (.DictComp kx vx [⟨tg, iter, ifs, 0⟩] scope pos) (some (.Name y py)) spos.line X.env = pure true) (hi : PI X tg iter wi) (ok : BlkOk X.N X.env.scope scope own)
    (hg : ∀ (s : Shared) (H : Hp) (C : Addr) (cl : List (Str × Addr)) (fp : List Addr), PG (X.blk s H scope (compEnvC scope cl C X.env) fp) tg g) (ht : ∀ (s : Shared) (H : Hp) (C : Addr) (cl : List (Str × Addr)) (fp : List Addr), PTs (X.blk s H scope (compEnvC scope cl C X.env) fp) ifs tt)
    (hk : ∀ (s : Shared) (H : Hp) (C : Addr) (cl : List (Str × Addr)) (fp : List Addr), PE (X.blk s H scope (compEnvC scope cl C X.env) fp) kx tk)
    (he : ∀ (s : Shared) (H : Hp) (C : Addr) (cl : List (Str × Addr)) (fp : List Addr), PE (X.blk s H scope (compEnvC scope cl C X.env) fp) vx tv) (hs : ∀ x, foldedSetIterable iter X.env x = pure x := by intro _; rfl) :
    PS X (.Assign [.Name y py] (.DictComp kx vx [⟨tg, iter, ifs, 0⟩] scope pos) spos) (tAsg (tDc wi g tt tk tv (own.map (·.2))) (gName i)) := by
  refine ⟨fun pins s σ H D I h => ?_⟩
  rw [exec_Assign_Name_used _ _ _ _ hsw]
  refine wpAny_bind (wpAny_standAt (wpAny_bind ?_))
  show wpAny _ X.A (do let _ ← comprehension (.DictComp kx vx [⟨tg, iter, ifs, 0⟩] scope pos) scope X.env (firstIterPos [⟨tg, iter, ifs, 0⟩] pos) newDict false (eval iter X.env) (some (assign (.Name y py) X.env))) _ _ s
  have h : tDc wi g tt tk tv (own.map (·.2)) σ H (fun x H1 => gName i x σ H1 D.nx) := h
  refine wpAny_bind (thn (dc_core (Qf := fun _ s' => SP X pins D .next s') hc hN I hi ok hg ht hk he hs h fun L C s' m H' I' q hn f => ?_) fun _ s' hq => wpAny_pure (wpAny_pure hq))
  show wpAny _ _ (assign (.Name y py) X.env (.ref L)) _ _ _
  refine wpAny_assign_Name (store_ok2 (v := V.ref L) I' hN hy (.inl hyl) rfl (fun s2 I2 ⟨a, sb, ha⟩ => ?_) (.inr hyl))
  obtain ⟨f0, f1, f2, f3, f4, f5⟩ := f
  have ne : C ≠ a := ha.elim (fun z => z ▸ f1) fun z e => f4 y a z e.symm
  exact ⟨m, hn.sameBut sb ne, fun h3 sb3 => ⟨_, H', I2.turned (t' := s2.toks) (fun b o hb e => (sb3.2 b hb).trans e) f0 f1 f3 f4 f5, q⟩⟩
end
end L2
namespace K40
open PySem PySem.Spec PyProof.Rows L2 Rg PySem.RingX
open Fm hiding D
section
variable {P : Program} {w : World} {K : PySem.W.Frag} {mg : Str → Option Value} {base : Heap}
def spRowOf (K : PySem.W.Frag) : Sp := fun vs H Q _ => ∃ (a : Addr) (key : Int) (ds : List D), vs = [.ref a, .int key] ∧ Dp K H (.ref a) (.tuple ds) ∧ ringL ds = true ∧ ds.length ≤ 1000 ∧ ∀ v, (v = .non ∨ ∃ i, v = .int i) → Q v H
theorem scRowOf : FnScope ["ring", "key", "row"] ["ring", "key"] (defScope s_owed_row) := ⟨rfl, rfl, rfl, by decide +kernel, rfl, by decide +kernel, by decide +kernel⟩
theorem ok_rowOf (R : Raw K mg "owed_row" s_owed_row ["ring", "key"]) (T : GT mg) : Def P w K mg base CX0 "owed_row" 1 ["ring", "key"] (spRowOf K) := by
  refine R.def fun f fd F => F.ok scRowOf (fun vs H Q E h => ?_) (fun cdv A outer s H vs Q E hr h => ?_)
  · obtain ⟨a, key, ds, rfl, _⟩ := h
    rfl
  · obtain ⟨a, key, ds, rfl, dr, hring, hlen, q⟩ := h
    refine ⟨_, pss_cons (ps_for PassesOwn.never rfl (pi_range1 (by rfl) T.range (pa_cons (pe_callB call_len_seq (by rfl) T.len PySem.boot_len (pa_cons (pv 0) pa_nil)) pa_nil)) (pg_name (i := 2) scRowOf.nd rfl (Or.inl rfl))
          (pss_one (ps_if (PW.pt (pw_and (pt_val (pe_callB call_isi (by rfl) T.isi (by decide +kernel) (pa_cons (pe_ix ix_tup (pv 0) (pv 2) (fun _ _ => rfl)) (pa_cons (pe_bltn (v := .ty "tuple") (by rfl) T.tup (by decide +kernel) rfl) pa_nil))))
            (pw_and1 (pt_cmpR op_eq (pe_ix ix_tup (pe_ix ix_tup (pv 0) (pv 2) (fun _ _ => rfl)) pe_int (fun _ _ => rfl)) (pv 1) (nomark _))))) (pss_one (ps_ret (pv 2))) pss_nil)))
      (pss_one (ps_ret pe_non)), ?_⟩
    obtain ⟨a', xs, ea, sq, dp⟩ := dp_tup dr
    cases ea
    have hxl := dp.length
    refine ⟨_, rfl, a, xs, rfl, .inr sq, _, rfl, by omega, by omega, for_range (n := xs.length) (fun i σ H' => (∃ x2, σ = [some (V.ref a), some (.int key), x2]) ∧ H' = H) ⟨⟨_, rfl⟩, rfl⟩ ?_ ?_⟩
    · rintro i σ H' hi ⟨⟨x2, rfl⟩, rfl⟩
      have hi' : i < ds.length := by omega
      obtain ⟨v, hv1, hv2⟩ := dp.get (row_get? hi')
      have hv0 : atI xs (0 + (i : Int)) = some v := by rw [Int.zero_add]; exact atI_nat hv1
      refine ⟨_, rfl, _, rfl, a, xs, _, v, rfl, rfl, sq, hv0, v, _, _, _, isT (row ds (i : Int)), rfl, .ty _, dp_ty hv2, kit_ty (kit_tup hv2), _, rfl, ?_⟩
      cases ht : isT (row ds (i : Int)) with
      | false => exact iteF ⟨⟨_, rfl⟩, rfl⟩
      | true =>
        obtain ⟨b, kk, c, hb1, hb2⟩ := ring_at dp hring hi' ht
        rw [hv1] at hb1
        cases hb1
        refine iteT ⟨_, rfl, _, rfl, a, xs, _, .ref b, rfl, rfl, sq, hv0, b, _, 0, .int kk, rfl, rfl, hb2, rfl, _, rfl, rfl, _, rfl, ?_⟩
        exact ite2 (fun _ => ⟨_, rfl, q _ (.inr ⟨_, rfl⟩)⟩) fun _ => ⟨⟨_, rfl⟩, rfl⟩
    · rintro σ H' ⟨⟨x2, rfl⟩, rfl⟩
      exact q _ (.inl rfl)
def spSteady (K : PySem.W.Frag) : Sp := fun vs H Q _ => ∃ (k : Str) (a l : Addr) (ds : List D) (v : V) (e : D), vs = [.str k, .ref a, v, .ref l] ∧ Dp K H (.ref a) (.tuple ds) ∧ Dp K H (.ref l) (.tuple ds) ∧ ringL ds = true ∧ ds.length ≤ 60 ∧ Dp K H v e ∧ HandB k ds e = true ∧ AnyB H Q
def nSt : List Str := ["kind", "ring", "handed", "left", "owed", "item", "before", "after"]
theorem scSt : FnScope nSt ["kind", "ring", "handed", "left"] (defScope s_is_steady) := ⟨rfl, rfl, rfl, by decide +kernel, rfl, by decide +kernel, by decide +kernel⟩
theorem ok_steady (R : Raw K mg "is_steady" s_is_steady ["kind", "ring", "handed", "left"]) (T : GT mg) (hz : mg "zip" = none) (DO : Def P w K mg base (L2.CX P w) "owed_items" 8 ["kind", "ring", "handed"] (spOwed K)) :
    Def P w K mg base (L2.CX P w) "is_steady" 9 ["kind", "ring", "handed", "left"] (spSteady K) := by
  obtain ⟨fO, dO, GO, gO, kO, bO⟩ := DO
  refine R.def fun f fd F => F.okX scSt (fun vs H Q E h => ?_) (fun cdv A outer s H vs Q E hr h => ?_)
  · obtain ⟨k, a, l, ds, v, e, rfl, _⟩ := h
    rfl
  · obtain ⟨k, a, l, ds, v, e, rfl, dr, dl, hring, hlen, dv, hh, q⟩ := h
    have hu := hu_of hr
    refine ⟨_, pss_cons (ps_setDc (i := 4) (own := [("item", 5)]) (g := gName 5) (tt := tYes) rfl scSt.nd rfl rfl (by rfl) (pi_list (pe_call (E := E) GO hr (by rfl) gO kO bO .nil (passes_call (takes_of rfl rfl rfl rfl) (fun _ _ _ _ z => z)) (pa_cons (pv 0) (pa_cons (pv 1) (pa_cons (pv 2) pa_nil))))) (blkOk_by (own := [("item", 5)]) (N := nSt) (sc := defScope s_is_steady) (by decide +kernel))
          (fun _ _ _ _ _ => pg_name (i := 5) scSt.nd rfl (Or.inl rfl)) (fun _ _ _ _ _ => pts_nil) (fun _ _ _ _ _ => pe_ix (show IxR _ (rIxT K) from ix_tup) (pv 5) pe_int (fun _ _ => rfl)) (fun _ _ _ _ _ => pe_bl))
      (pss_cons (ps_for (passes_of rfl) rfl (RZ.pi_zipA (by rfl) hz (pa_cons (pv 1) (pa_cons (pv 3) pa_nil))) (pg_tup rfl (pgs_cons (pg_name (i := 6) scSt.nd rfl (Or.inl rfl)) (pgs_cons (pg_name (i := 7) scSt.nd rfl (Or.inl rfl)) pgs_nil)))
        (pss_one (ps_if (PW.pt (pw_and (pt_val (pe_callB call_isi (by rfl) T.isi (by decide +kernel) (pa_cons (pv 6) (pa_cons (pe_bltn (v := .ty "tuple") (by rfl) T.tup (by decide +kernel) rfl) pa_nil))))
            (pw_and1 (pt_cmp (pc_din hu (pe_ix ix_tup (pv 6) pe_int (fun _ _ => rfl)) (pv 4))))))
          (pss_one (ps_if (PW.pt (pw_or (pt_not (pt_val (pe_callB call_isi (by rfl) T.isi (by decide +kernel) (pa_cons (pv 7) (pa_cons (pe_bltn (v := .ty "tuple") (by rfl) T.tup (by decide +kernel) rfl) pa_nil)))))
            (pw_or1 (pt_cmpR op_ne (pe_ix ix_tup (pv 7) pe_int (fun _ _ => rfl)) (pe_ix ix_tup (pv 6) pe_int (fun _ _ => rfl)) (nomark _))))) (pss_one (ps_ret pe_bl)) pss_nil)) pss_nil)))
      (pss_one (ps_ret pe_bl))), ?_⟩
    obtain ⟨a', xs, ea, sqa, dpa⟩ := dp_tup dr
    cases ea
    obtain ⟨l', zs, el, sql, dpl⟩ := dp_tup dl
    cases el
    have hlx : xs.length = zs.length := by rw [dpa.length, dpl.length]
    refine ⟨_, rfl, _, rfl, _, rfl, k, a, ds, v, e, rfl, dr, hring, by omega, dv, hh, fun p ys es H1 h1 d1 ow s1 => ?_⟩
    obtain ⟨ow1, ow2⟩ := ow
    refine ⟨p, rfl, ⟨_, SqL.of h1⟩, fun A0 hA0 => dc_list (K := K) (a := p) (xs := ys) (fun i H' => Same H1 H' ∧ ∃ kvs, H' A0 = some (.dK kvs) ∧ kvs.length ≤ i) ⟨same_upd hA0, [], upd_same, Nat.le_refl _⟩ (fun i H' _ h => h.1.seq (SqL.of h1)) ?_ ?_⟩
    · rintro i x H2 hx ⟨s2, kvs, h2, l2⟩
      obtain ⟨d, hd, dx⟩ := dp_at d1 hx
      obtain ⟨k', x', m', rfl, _⟩ := item_parts (ow1 d (List.mem_of_getElem? hd)).1
      obtain ⟨a2, rfl, q2⟩ := dp_item dx
      have il : i < ys.length := (List.getElem?_eq_some_iff.mp hx).1
      have yl := d1.length
      refine ⟨rfl, _, rfl, a2, _, 0, .int k', rfl, rfl, s2.sqT q2, rfl, kvs, Sum.inl k', rfl, h2, by rw [sizeLine_eq]; omega, fun y o hy => ?_, _, upd_same, ?_⟩
      · rw [upd_ne (ne_of_none hy hA0)]; exact s2 y o hy
      · exact Nat.le_trans (length_putK ..) (by omega)
    · rintro H2 ⟨s2, kvs, h2, l2⟩
      have s12 := s1.trans s2
      refine ⟨_, rfl, _, rfl, a, l, xs, zs, rfl, .inr ⟨s12.sqT sqa, s12.sqT sql, RZ.for_zipT (K := K) (a := a) (b := l) (xs := xs) (ys := zs) hlx (fun i σ H' => (∃ x6 x7, σ = [some (.str k), some (.ref a), some v, some (.ref l), some (.ref A0), none, x6, x7]) ∧ Same H H' ∧ H' A0 = some (.dK kvs)) ⟨⟨_, _, rfl⟩, s12, h2⟩ (fun i σ H' h => ⟨h.2.1.sqT sqa, h.2.1.sqT sql⟩) ?_ ?_⟩⟩
      · rintro i x y T0 σ H3 hx hy ⟨⟨x6, x7, rfl⟩, s3, h3⟩ hT0
        obtain ⟨d, hd, dx⟩ := dp_at dpa hx
        obtain ⟨d', hd', dy⟩ := dp_at dpl hy
        rw [hd] at hd'
        cases hd'
        have s4 := @same_upd _ T0 (.tup [x, y]) hT0
        have h4 := s4 _ _ h3
        have s34 := s3.trans s4
        refine ⟨T0, _, rfl, SqT.of upd_same, rfl, _, _, rfl, _, _, rfl, rfl, ?_⟩
        generalize upd H3 T0 (.tup [x, y]) = H4 at *
        refine ⟨_, rfl, x, _, _, _, isT d, rfl, .ty _, dp_ty (dx.keep s34), kit_ty (kit_tup dx), _, rfl, ?_⟩
        cases ht : isT d with
        | false => exact iteF ⟨⟨_, _, rfl⟩, s34, h4⟩
        | true =>
          have dm := List.mem_of_getElem? hd
          obtain ⟨k', x', m', rfl, _⟩ := item_parts (row_item (List.all_eq_true.mp (ring_rows hring) _ dm) ht)
          obtain ⟨b, rfl, qb⟩ := dp_item (dx.keep s34)
          obtain ⟨c, rfl, qc⟩ := dp_item (dy.keep s34)
          refine iteT ⟨_, rfl, b, _, 0, .int k', rfl, rfl, qb, rfl, _, rfl, A0, _, rfl, DGet.k (k := Sum.inl k') h4, _, rfl, ?_⟩
          refine ite2 (fun _ => ?_) fun _ => ⟨⟨_, _, rfl⟩, s34, h4⟩
          refine ⟨_, rfl, .ref c, _, _, _, true, rfl, .ty _, dp_ty (dy.keep s34), kit_ty (kit_tup dy), _, rfl, iteF ?_⟩
          refine ⟨_, rfl, c, _, 0, .int k', rfl, rfl, qc, rfl, _, rfl, b, _, 0, .int k', rfl, rfl, qb, rfl, rfl, _, rfl, ?_⟩
          exact ite2 (fun _ => q _ _ s34) fun _ => ⟨⟨_, _, rfl⟩, s34, h4⟩
      · rintro σ H3 ⟨⟨x6, x7, rfl⟩, s3, h3⟩
        exact q _ _ s3
end
end K40

namespace K40
open PySem PySem.Spec PyProof.Rows L2 Rg PySem.RingX
open Fm hiding D
section
variable {P : Program} {w : World} {K : PySem.W.Frag} {mg : Str → Option Value} {base : Heap}
def spBrk (K : PySem.W.Frag) (C CC CS : Addr) : Sp := fun vs H Q _ => ∃ (p dx c a r g : Addr) (hd ky : V) (pl sd mt : Addr) (xs : List V) (x y : V) (pls : List (Key × V)) (k wy text : Str) (Ls : List LineM) (ds : List D) (v : V) (e : D), vs = [.ref p, .str "done", v] ∧
  StateAt CS H p dx c a r g hd ky pl sd mt xs x y pls ∧ CodeP K C CC H c k wy text Ls ∧ wayM wy = true ∧ Dp K H (.ref a) (.tuple ds) ∧ DpAll K H xs ds ∧ ringL ds = true ∧ ds.length ≤ 60 ∧ Dp K H v e ∧ HandB k ds e = true ∧ ∀ (u : V) H', Same H H' → Q u H'
def nBrk : List Str := ["state", "ended", "handed", "kind", "left"]
theorem scBrk : FnScope nBrk ["state", "ended", "handed"] (defScope s_broken_promises) := ⟨rfl, rfl, rfl, by decide +kernel, rfl, by decide +kernel, by decide +kernel⟩
theorem ok_brk {C CC CS CW CR : Addr} (R : Raw K mg "broken_promises" s_broken_promises ["state", "ended", "handed"]) (TG : GT mg) (T : ClsT K mg CS "State" stNames) (TT : ClsT K mg CC "Code" codeNames) (D0 : DoneAt mg)
    (DR : Def P w K mg base CX0 "is_ring" 5 ["value"] (spS K ringD)) (DL : Def P w K mg base (L2.CX P w) "is_lawful" 9 ["ring", "way"] (spLawful K CW CR)) (DV : Def P w K mg base (L2.CX P w) "leaves_owed" 9 nLv (spLeaves K)) (DO : Def P w K mg base CX0 "owed_row" 1 ["ring", "key"] (spRowOf K)) (DS : Def P w K mg base (L2.CX P w) "is_steady" 9 ["kind", "ring", "handed", "left"] (spSteady K)) :
    Def P w K mg base (L2.CX P w) "broken_promises" 10 ["state", "ended", "handed"] (spBrk K C CC CS) := by
  obtain ⟨tD, gD⟩ := D0
  obtain ⟨fR, dR, GR, gR, kR, bR⟩ := DR
  obtain ⟨fL, dL, GL, gL, kL, bL⟩ := DL
  obtain ⟨fV, dV, GV, gV, kV_, bV⟩ := DV
  obtain ⟨fO, dO, GO, gO, kO, bO⟩ := DO
  obtain ⟨fS, dS, GS, gS, kS, bS⟩ := DS
  refine R.def fun f fd F => F.okX scBrk (fun vs H Q E h => ?_) (fun cdv A outer s H vs Q E hr h => ?_)
  · obtain ⟨p, dx, c, a, r, g, hd, ky, pl, sd, mt, xs, x, y, pls, k, wy, text, Ls, ds, v, e, rfl, _⟩ := h
    rfl
  · obtain ⟨p, dx, c, a, r, g, hd, ky, pl, sd, mt, xs, x, y, pls, k, wy, text, Ls, ds, v, e, rfl, S, cp, wx, da, dxs, hring, hlen, dv, hh, q⟩ := h
    have hr5 : Room 5 _ := hr.mono (by decide)
    have hr1 : Room 1 _ := hr.mono (by decide)
    have hu := hu_of hr
    refine ⟨_, pss_cons (ps_if (pt_cmpR op_ne (pv 1) (pe_glob (v := .str "done") (by rfl) gD ⟨_, rfl⟩) (nomark _)) pss_no pss_nil)
      (pss_cons (ps_set (i := 3) scBrk.nd rfl (Or.inl rfl) (pe_fld (pe_fld (pv 0) rfl) rfl))
      (pss_cons (ps_set (i := 4) scBrk.nd rfl (Or.inl rfl) (pe_tupleOf (by rfl) TG.tup (pe_fld (pv 0) rfl)))
      (pss_cons (ps_if (PW.pt (pw_or (pt_not (pt_val (pe_call GR hr5 (by rfl) gR kR bR .nil pass0 (pa_cons (pv 4) pa_nil)))) (pw_or1 (pt_not (pt_val (pe_call (E := E) GL hr (by rfl) gL kL bL .nil (passes_call (takes_of rfl rfl rfl rfl) (fun _ _ _ _ z => z)) (pa_cons (pv 4) (pa_cons (pe_fld (pe_fld (pv 0) rfl) rfl) pa_nil)))))))) (pss_one (ps_ret (pe_tup (pa_cons pe_str pa_nil)))) pss_nil)
      (pss_cons (ps_if (pt_not (pt_val (pe_call (E := E) GV hr (by rfl) gV kV_ bV .nil (passes_call (takes_of rfl rfl rfl rfl) (fun _ _ _ _ z => z)) (pa_cons (pv 3) (pa_cons (pe_fld (pv 0) rfl) (pa_cons (pv 2) (pa_cons (pv 4) pa_nil))))))) (pss_one (ps_ret (pe_tup (pa_cons pe_str pa_nil)))) pss_nil)
      (pss_cons (ps_if (pt_cmpR op_eq (pv 3) pe_str (nomark _)) (pss_one (ps_ret (pe_ifExp (pt_cmpR op_eq (pe_dget hu (pe_fld (pv 0) rfl) pe_str (fun _ _ => rfl)) (pe_call GO hr1 (by rfl) gO kO bO .nil pass0 (pa_cons (pe_fld (pv 0) rfl) (pa_cons (pe_ix ix_tup (pv 2) pe_int (fun _ _ => rfl)) pa_nil))) (nomark _)) (pe_tup pa_nil) (pe_tup (pa_cons pe_str pa_nil))))) pss_nil)
      (pss_one (ps_ret (pe_ifExp (pt_val (pe_call (E := E) GS hr (by rfl) gS kS bS .nil (passes_call (takes_of rfl rfl rfl rfl) (fun _ _ _ _ z => z)) (pa_cons (pv 3) (pa_cons (pe_fld (pv 0) rfl) (pa_cons (pv 2) (pa_cons (pv 4) pa_nil)))))) (pe_tup pa_nil) (pe_tup (pa_cons pe_str pa_nil)))))))))), ?_⟩
    obtain ⟨dc, tt, tp, ps, hc, hc2, hc3⟩ := id cp
    have sD : Short (.tuple ds) := fun ds' e1 => by cases e1; omega
    have hrd : ringD (.tuple ds) = true := hring
    refine ⟨_, rfl, rfl, _, rfl, ifF (by rfl) ?_⟩
    refine ⟨_, rfl, p, CS, dx, _, _, rfl, S.ob, T.cl, T.no _ (by simp [stNames]), st_code .., c, CC, dc, _, _, rfl, hc, TT.cl, TT.no _ (by simp [codeNames]), cd_kind .., ?_⟩
    refine ⟨_, rfl, p, CS, dx, _, _, rfl, S.ob, T.cl, T.no _ (by simp [stNames]), st_rows .., .inl ⟨r, xs, rfl, SqL.of S.hr, fun l hl => ?_⟩⟩
    have s1 := @same_upd _ l (.tup xs) hl
    have hl1 : upd H l (.tup xs) l = some (.tup xs) := upd_same
    generalize upd H l (.tup xs) = H1 at s1 hl1 ⊢
    have dl : Dp K H1 (.ref l) (.tuple ds) := .tup (SqT.of hl1) (dxs.keep s1)
    refine ⟨_, rfl, .ref l, .tuple ds, rfl, dl, sD, fun H2 s2 => ⟨_, rfl, ?_⟩⟩
    rw [hrd]
    have s12 := s1.trans s2
    have S2 := S.same s12
    refine iteF ⟨_, rfl, _, rfl, p, CS, dx, _, _, rfl, S2.ob, T.cl, T.no _ (by simp [stNames]), st_code .., c, CC, dc, _, _, rfl, s12 _ _ hc, TT.cl, TT.no _ (by simp [codeNames]), cd_way .., .ref l, .str wy, .tuple ds, .str wy, rfl, dl.keep s2, .str wy, sD, (fun ds z => (nomatch z)), fun ds2 x2 e1 hr2 e2 hw2 b H3 hb s3 => ?_, (fun z => by rw [hrd] at z; cases z), fun _ z => by rw [show wayD (.str wy) = wayM wy from rfl, wx] at z; cases z⟩
    have s123 := s12.trans s3
    cases b with
    | false => exact ⟨_, rfl, iteT ⟨(by show 1 ≤ sizeLine; decide), fun t ht => q _ _ (s123.trans (same_upd ht))⟩⟩
    | true =>
      refine ⟨_, rfl, iteF ?_⟩
      have S3 := S.same s123
      refine ⟨_, rfl, _, rfl, p, CS, dx, _, _, rfl, S3.ob, T.cl, T.no _ (by simp [stNames]), st_start .., _, rfl, _, rfl, k, a, l, ds, v, e, rfl, da.keep s123, dl.keep (s2.trans s3), hring, hlen, dv.keep s123, hh, fun b4 H4 s4 => ?_⟩
      have s1234 := s123.trans s4
      have S4 := S.same s1234
      cases b4 with
      | false => exact ⟨_, rfl, iteT ⟨(by show 1 ≤ sizeLine; decide), fun t ht => q _ _ (s1234.trans (same_upd ht))⟩⟩
      | true =>
        refine ⟨_, rfl, iteF ⟨_, rfl, rfl, _, rfl, ?_⟩⟩
        by_cases ck : k = "find"
        · rw [decide_eq_true (congrArg V.str ck)]
          have hh2 := hh
          unfold HandB at hh2
          rw [if_neg (fun z => by rw [ck] at z; exact absurd z (by decide +kernel))] at hh2
          obtain ⟨bh, rr, rfl, sh⟩ := handed_parts (Bool.and_eq_true_iff.mp hh2).1 dv
          refine iteT ⟨_, rfl, p, CS, dx, _, _, rfl, S4.ob, T.cl, T.no _ (by simp [stNames]), st_regs .., g, .non, rfl, ?_, ?_⟩
          · have z := DGet.k (k := Sum.inr "out") S4.hg
            rw [get_out] at z
            exact z
          refine ⟨_, rfl, p, CS, dx, _, _, rfl, S4.ob, T.cl, T.no _ (by simp [stNames]), st_start .., _, rfl, bh, _, 0, .int (keyD e), rfl, rfl, s1234.sqT sh, atI_nat (j := 0) rfl, a, keyD e, ds, rfl, da.keep s1234, hring, by omega, fun u hu2 => ?_⟩
          rcases hu2 with rfl | ⟨i, rfl⟩
          · exact ⟨rfl, _, rfl, ite2 (fun _ => ⟨(by show 0 ≤ sizeLine; decide), fun t ht => q _ _ (s1234.trans (same_upd ht))⟩) fun _ => ⟨(by show 1 ≤ sizeLine; decide), fun t ht => q _ _ (s1234.trans (same_upd ht))⟩⟩
          · exact ⟨rfl, _, rfl, ite2 (fun _ => ⟨(by show 0 ≤ sizeLine; decide), fun t ht => q _ _ (s1234.trans (same_upd ht))⟩) fun _ => ⟨(by show 1 ≤ sizeLine; decide), fun t ht => q _ _ (s1234.trans (same_upd ht))⟩⟩
        · rw [decide_eq_false fun z => ck (V.str.inj z)]
          refine iteF ⟨_, rfl, _, rfl, p, CS, dx, _, _, rfl, S4.ob, T.cl, T.no _ (by simp [stNames]), st_start .., _, rfl, _, rfl, k, a, l, ds, v, e, rfl, da.keep s1234, dl.keep ((s2.trans s3).trans s4), hring, hlen, dv.keep s1234, hh, fun b5 H5 s5 => ⟨_, rfl, ?_⟩⟩
          exact ite2 (fun _ => ⟨(by show 0 ≤ sizeLine; decide), fun t ht => q _ _ ((s1234.trans s5).trans (same_upd ht))⟩) fun _ => ⟨(by show 1 ≤ sizeLine; decide), fun t ht => q _ _ ((s1234.trans s5).trans (same_upd ht))⟩
end
end K40

namespace K40
open PySem PySem.Spec PyProof.Rows L2 Rg PySem.RingX
open Fm hiding D
/-! ## Play -/
def playNames : List Str := ["ended", "left", "out", "steps", "looks", "broken", "_played", "_sided", "_met"]
/-- an instance that is being made -/
structure Mkg (C : Addr) (H H' : Hp) (q dx : Addr) (fs : List (Str × V)) : Prop where
  keep : ∀ b o, b ≠ q → H b = some o → H' b = some o
  ob : H' q = some (.ins C dx fs)
section
variable {C : Addr} {H H' : Hp} {q dx : Addr} {fs fs' : List (Str × V)}
theorem Mkg.setP (S : Mkg C H H' q dx fs) : Mkg C H (upd H' q (.ins C dx fs')) q dx fs' := ⟨fun b o n e => by rw [upd_ne n]; exact S.keep b o n e, upd_same⟩
theorem Mkg.new {t : Addr} {o : HO} (S : Mkg C H H' q dx fs) (ht : H' t = none) : Mkg C H (upd H' t o) q dx fs := ⟨fun b u n e => by have := S.keep b u n e; rw [upd_ne (ne_of_none this ht)]; exact this, by rw [upd_ne (ne_of_none S.ob ht)]; exact S.ob⟩
theorem Mkg.fresh {t : Addr} (S : Mkg C H H' q dx fs) (ht : H' t = none) : t ≠ q := fun e => by rw [e, S.ob] at ht; cases ht
end
/-- and a tuple of its own -/
structure Mkl (C : Addr) (H H' : Hp) (q dx : Addr) (fs : List (Str × V)) (l : Addr) (xs : List V) : Prop where
  m : Mkg C H H' q dx fs
  hl : H' l = some (.tup xs)
  ne : l ≠ q
section
variable {C : Addr} {H H' : Hp} {q dx : Addr} {fs fs' : List (Str × V)} {l : Addr} {xs : List V}
theorem Mkl.setP (S : Mkl C H H' q dx fs l xs) : Mkl C H (upd H' q (.ins C dx fs')) q dx fs' l xs := ⟨S.m.setP, by rw [upd_ne S.ne]; exact S.hl, S.ne⟩
theorem Mkl.new {t : Addr} {o : HO} (S : Mkl C H H' q dx fs l xs) (ht : H' t = none) : Mkl C H (upd H' t o) q dx fs l xs := ⟨S.m.new ht, by rw [upd_ne (ne_of_none S.hl ht)]; exact S.hl, S.ne⟩
end
theorem StateAt.but {CS CP dq q : Addr} {H H' : Hp} {p dx c a r g : Addr} {hd ky : V} {pl sd mt : Addr} {xs : List V} {x y : V} {pls : List (Key × V)} (S : StateAt CS H p dx c a r g hd ky pl sd mt xs x y pls) (hq : H q = some (.ins CP dq [])) (ex : ∀ b o, b ≠ q → H b = some o → H' b = some o) : StateAt CS H' p dx c a r g hd ky pl sd mt xs x y pls := by
  have np : p ≠ q := ne_of S.ob hq (fun z => by injection z with _ _ z; exact nomatch z)
  exact ⟨ex _ _ np S.ob, ex _ _ (ne_of S.hr hq (fun z => nomatch z)) S.hr, ex _ _ (ne_of S.hg hq (fun z => nomatch z)) S.hg, ex _ _ (ne_of S.hp hq (fun z => nomatch z)) S.hp, ex _ _ (ne_of S.hs hq (fun z => nomatch z)) S.hs, ex _ _ (ne_of S.hm hq (fun z => nomatch z)) S.hm, S.ne, S.ng, S.ns⟩
def plF (l : Addr) (u a b c : V) : List (Str × V) := [("ended", .str "done"), ("left", .ref l), ("out", .non), ("steps", .int 0), ("looks", .int 0), ("broken", u), ("_played", a), ("_sided", b), ("_met", c)]
section
variable (l : Addr) (u a b c : V)
theorem pl_made : putF "_met" c (putF "_sided" b (putF "_played" a (putF "broken" u (putF "looks" (.int 0) (putF "steps" (.int 0) (putF "out" .non (putF "left" (.ref l) (putF "ended" (.str "done") [])))))))) = plF l u a b c := by kernel_rfl
theorem pl_ended : (plF l u a b c).lookup ("ended" : Str) = some (.str "done") := by kernel_rfl
theorem pl_left : (plF l u a b c).lookup ("left" : Str) = some (.ref l) := by kernel_rfl
theorem pl_looks : (plF l u a b c).lookup ("looks" : Str) = some (.int 0) := by kernel_rfl
end
section
variable {P : Program} {w : World} {K : PySem.W.Frag} {mg : Str → Option Value} {base : Heap}
def nPI : List Str := ["self", "state", "ended", "broken"]
def spPlayI (K : PySem.W.Frag) (CS CP : Addr) : Sp := fun vs H Q _ => ∃ (q dq p dx c a r g : Addr) (hd ky : V) (pl sd mt : Addr) (xs : List V) (x y : V) (pls : List (Key × V)) (u : V), vs = [.ref q, .ref p, .str "done", u] ∧ H q = some (.ins CP dq []) ∧
  StateAt CS H p dx c a r g hd ky pl sd mt xs x y pls ∧ (pls = [] ∨ pls = [(Sum.inl 1, V.bl true)]) ∧
  ∀ (l : Addr) (a1 a2 a3 : V) (H' : Hp), (∀ b o, b ≠ q → H b = some o → H' b = some o) → H' q = some (.ins CP dq (plF l u a1 a2 a3)) → H' l = some (.tup xs) → Q .non H'
theorem scPI : FnScope nPI nPI (defScope s_Play_init) := ⟨rfl, rfl, rfl, by decide +kernel, rfl, by decide +kernel, by decide +kernel⟩
theorem ok_playI {f CS CP : Addr} {fd : FuncData} (F : Fun K "__init__" "Play.__init__" s_Play_init f fd) (TG : GT mg) (hs : mg "sorted" = none) (T : ClsT K mg CS "State" stNames) (TP : ClsT K mg CP "Play" playNames) : FnOk P w K mg base CX0 1 f fd nPI (spPlayI K CS CP) := by
  refine F.ok scPI (fun vs H Q E h => ?_) (fun cdv A outer s H vs Q E hr h => ?_)
  · obtain ⟨q, dq, p, dx, c, a, r, g, hd, ky, pl, sd, mt, xs, x, y, pls, u, rfl, _⟩ := h
    rfl
  · obtain ⟨q, dq, p, dx, c, a, r, g, hd, ky, pl, sd, mt, xs, x, y, pls, u, rfl, hq, S, hpl, kk⟩ := h
    have hu := hu_of hr
    refine ⟨_, pss_cons (ps_fld (pv 0) (pv 2) rfl) (pss_cons (ps_fld (pv 0) (pe_tupleOf (by rfl) TG.tup (pe_fld (pv 1) rfl)) rfl)
      (pss_cons (ps_fld (pv 0) (pe_dget hu (pe_fld (pv 1) rfl) pe_str (fun _ _ => rfl)) rfl) (pss_cons (ps_fld (pv 0) (pe_fld (pv 1) rfl) rfl)
      (pss_cons (ps_fld (pv 0) (pe_callB call_len_seq (by rfl) TG.len PySem.boot_len (pa_cons (pe_fld (pv 1) rfl) pa_nil)) rfl) (pss_cons (ps_fld (pv 0) (pv 3) rfl)
      (pss_cons (ps_fld (pv 0) (pe_tupleOf (by rfl) TG.tup (pe_callB (call_sortedDI rfl) (by rfl) hs (by decide +kernel) (pa_cons (pe_fld (pv 1) rfl) pa_nil))) rfl)
      (pss_cons (ps_fld (pv 0) (pe_tupleOf (by rfl) TG.tup (pe_callB (call_sortedDI rfl) (by rfl) hs (by decide +kernel) (pa_cons (pe_fld (pv 1) rfl) pa_nil))) rfl)
      (pss_one (ps_fld (pv 0) (pe_tupleOf (by rfl) TG.tup (pe_fld (pv 1) rfl)) rfl))))))))), ?_⟩
    have M0 : Mkg CP H H q dq [] := ⟨fun _ _ _ e => e, hq⟩
    have pe : ∃ ks : List Int, pls.map (·.1) = ks.map Sum.inl ∧ ks.length < 64 := by
      rcases hpl with rfl | rfl
      · exact ⟨[], rfl, by decide⟩
      · exact ⟨[1], rfl, by decide⟩
    obtain ⟨ks, ek, lk⟩ := pe
    refine ⟨_, rfl, _, rfl, q, CP, dq, _, rfl, M0.ob, TP.cl, TP.no _ (by simp [playNames]), lt1000 nil_lt, ?_⟩
    have M1 := M0.setP (fs' := putF "ended" (.str "done") [])
    have S1 := S.but hq M1.keep
    refine ⟨_, rfl, p, CS, dx, _, _, rfl, S1.ob, T.cl, T.no _ (by simp [stNames]), st_rows .., .inl ⟨r, xs, rfl, SqL.of S1.hr, fun l hl => ?_⟩⟩
    have M2 := M1.new (o := .tup xs) hl
    have lq := M1.fresh hl
    have L2_ : upd (upd H q (.ins CP dq (putF "ended" (.str "done") []))) l (.tup xs) l = some (.tup xs) := upd_same
    refine ⟨_, rfl, q, CP, dq, _, rfl, M2.ob, TP.cl, TP.no _ (by simp [playNames]), lt1000 (putF_lt nil_lt), ?_⟩
    have M3 := M2.setP (fs' := putF "left" (.ref l) (putF "ended" (.str "done") []))
    have N3 : Mkl CP H _ q dq _ l xs := ⟨M3, by rw [upd_ne lq]; exact L2_, lq⟩
    clear M3
    generalize upd (upd (upd H q (.ins CP dq (putF "ended" (.str "done") []))) l (.tup xs)) q (.ins CP dq (putF "left" (.ref l) (putF "ended" (.str "done") []))) = H3 at N3 ⊢
    have S3 := S.but hq N3.m.keep
    have l2 : (putF "left" (V.ref l) (putF "ended" (V.str "done") [])).length < 3 := putF_lt (putF_lt nil_lt)
    refine ⟨_, rfl, p, CS, dx, _, _, rfl, S3.ob, T.cl, T.no _ (by simp [stNames]), st_regs .., g, .non, rfl, ?_, ?_⟩
    · have z := DGet.k (k := Sum.inr "out") S3.hg
      rw [get_out] at z
      exact z
    refine ⟨_, rfl, q, CP, dq, _, rfl, N3.m.ob, TP.cl, TP.no _ (by simp [playNames]), lt1000 l2, ?_⟩
    have N4 := N3.setP (fs' := putF "out" .non (putF "left" (.ref l) (putF "ended" (.str "done") [])))
    have S4 := S.but hq N4.m.keep
    refine ⟨_, rfl, p, CS, dx, _, _, rfl, S4.ob, T.cl, T.no _ (by simp [stNames]), st_steps .., _, rfl, q, CP, dq, _, rfl, N4.m.ob, TP.cl, TP.no _ (by simp [playNames]), lt1000 (putF_lt l2), ?_⟩
    have N5 := N4.setP (fs' := putF "steps" (.int 0) (putF "out" .non (putF "left" (.ref l) (putF "ended" (.str "done") []))))
    have S5 := S.but hq N5.m.keep
    refine ⟨_, rfl, p, CS, dx, _, _, rfl, S5.ob, T.cl, T.no _ (by simp [stNames]), st_met .., mt, [], rfl, .inl (SqL.of S5.hm), _, rfl, q, CP, dq, _, rfl, N5.m.ob, TP.cl, TP.no _ (by simp [playNames]), lt1000 (putF_lt (putF_lt l2)), ?_⟩
    have N6 := N5.setP (fs' := putF "looks" (.int 0) (putF "steps" (.int 0) (putF "out" .non (putF "left" (.ref l) (putF "ended" (.str "done") [])))))
    refine ⟨_, rfl, _, rfl, q, CP, dq, _, rfl, N6.m.ob, TP.cl, TP.no _ (by simp [playNames]), lt1000 (putF_lt (putF_lt (putF_lt l2))), ?_⟩
    have N7 := N6.setP (fs' := putF "broken" u (putF "looks" (.int 0) (putF "steps" (.int 0) (putF "out" .non (putF "left" (.ref l) (putF "ended" (.str "done") []))))))
    have S7 := S.but hq N7.m.keep
    have l7 : (putF "broken" u (putF "looks" (V.int 0) (putF "steps" (V.int 0) (putF "out" V.non (putF "left" (V.ref l) (putF "ended" (V.str "done") [])))))).length < 7 := putF_lt (putF_lt (putF_lt (putF_lt l2)))
    refine ⟨_, rfl, p, CS, dx, _, _, rfl, S7.ob, T.cl, T.no _ (by simp [stNames]), st_played .., pl, pls, ks, rfl, .inl S7.hp, ek, lk, fun y1 t1 _ _ ht1 => .inl ⟨t1, _, rfl, SqL.of upd_same, fun t2 ht2 => ?_⟩⟩
    have N8 := (N7.new (o := .lst (y1.map V.int)) ht1).new (o := .tup (y1.map V.int)) ht2
    refine ⟨_, rfl, q, CP, dq, _, rfl, N8.m.ob, TP.cl, TP.no _ (by simp [playNames]), lt1000 l7, ?_⟩
    have N9 := N8.setP (fs' := putF "_played" (.ref t2) (putF "broken" u (putF "looks" (V.int 0) (putF "steps" (V.int 0) (putF "out" V.non (putF "left" (V.ref l) (putF "ended" (V.str "done") [])))))))
    have S9 := S.but hq N9.m.keep
    refine ⟨_, rfl, p, CS, dx, _, _, rfl, S9.ob, T.cl, T.no _ (by simp [stNames]), st_sided .., sd, [], [], rfl, .inl S9.hs, rfl, by decide, fun y2 t3 _ _ ht3 => .inl ⟨t3, _, rfl, SqL.of upd_same, fun t4 ht4 => ?_⟩⟩
    have Na := (N9.new (o := .lst (y2.map V.int)) ht3).new (o := .tup (y2.map V.int)) ht4
    refine ⟨_, rfl, q, CP, dq, _, rfl, Na.m.ob, TP.cl, TP.no _ (by simp [playNames]), lt1000 (putF_lt l7), ?_⟩
    have Nb := Na.setP (fs' := putF "_sided" (.ref t4) (putF "_played" (.ref t2) (putF "broken" u (putF "looks" (V.int 0) (putF "steps" (V.int 0) (putF "out" V.non (putF "left" (V.ref l) (putF "ended" (V.str "done") []))))))))
    have Sb := S.but hq Nb.m.keep
    refine ⟨_, rfl, p, CS, dx, _, _, rfl, Sb.ob, T.cl, T.no _ (by simp [stNames]), st_met .., .inl ⟨mt, [], rfl, SqL.of Sb.hm, fun t5 ht5 => ?_⟩⟩
    have Nc := Nb.new (o := .tup []) ht5
    refine ⟨_, rfl, q, CP, dq, _, rfl, Nc.m.ob, TP.cl, TP.no _ (by simp [playNames]), lt1000 (putF_lt (putF_lt l7)), ?_⟩
    rw [pl_made]
    have Nd := Nc.setP (fs' := plF l u (.ref t2) (.ref t4) (.ref t5))
    exact kk l _ _ _ _ Nd.m.keep Nd.m.ob Nd.hl
end
end K40

namespace K40
open PySem PySem.Spec PyProof.Rows L2 Rg PySem.RingX
open Fm hiding D
/-! ## play -/
theorem made_same {H : Hp} {p dx : Addr} {o u : HO} (hp : H p = none) (hd : H dx = none) : Same H (upd (upd H dx o) p u) := fun b o h => by
  rw [upd_ne (ne_of_none h hp), upd_ne (ne_of_none h hd)]; exact h
theorem made_fresh {H : Hp} {p dx b : Addr} {o u : HO} (h : upd (upd H dx o) p u b = none) : H b = none := by
  have e1 : b ≠ p := by
    rintro rfl
    rw [upd_same] at h; cases h
  rw [upd_ne e1] at h
  have e2 : b ≠ dx := by
    rintro rfl
    rw [upd_same] at h; cases h
  rwa [upd_ne e2] at h
section
variable {P : Program} {w : World} {K : PySem.W.Frag} {mg : Str → Option Value} {base : Heap}
/-- what comes of a play of an idle code -/
def PlayC (K : PySem.W.Frag) (CR CH CP : Addr) (k wy : Str) (v u : V) (d e : D) (H : Hp) (Q : VK) (E : XK) : Prop :=
  (¬ PlayB k wy d ∧ Rz CR "ring" v H E) ∨
  (PlayB k wy d ∧ ∃ ds, d = .tuple ds ∧ ds.length ≤ 60 ∧ ((HandB k ds e = false ∧ Rz CH "handed" u H E) ∨
    (HandB k ds e = true ∧ ∀ (a : Addr) (xs : List V) (q dq l : Addr) (a0 a1 a2 a3 : V) (H' : Hp), v = .ref a → SqT K H a xs → DpAll K H xs ds → Same H H' → H' q = some (.ins CP dq (plF l a0 a1 a2 a3)) → H' l = some (.tup xs) → Q (.ref q) H')))
def spPlay (K : PySem.W.Frag) (C CC CR CH CP : Addr) : Sp := fun vs H Q E => ∃ (c : Addr) (k wy text : Str) (Ls : List LineM) (v u : V) (d e : D), vs = [.ref c, v, u] ∧ CodeP K C CC H c k wy text Ls ∧ wayM wy = true ∧ Idle Ls ∧ Dp K H v d ∧ Short d ∧ Dp K H u e ∧ (∀ a, v = .ref a → putSet k = true → ringD d = true → PlT K H a) ∧ PlayC K CR CH CP k wy v u d e H Q E
def nPlay : List Str := ["code", "ring", "handed", "state", "ended"]
theorem scPlay : FnScope nPlay ["code", "ring", "handed"] (defScope s_play) := ⟨rfl, rfl, rfl, by decide +kernel, rfl, by decide +kernel, by decide +kernel⟩
theorem ok_play {C CC CS CP CR CH fR' fH' fSI fPI : Addr} {dSI dPI : FuncData} (R : Raw K mg "play" s_play ["code", "ring", "handed"]) (TT : ClsT K mg CC "Code" codeNames) (XR : ExTxt P K mg CR fR' "BadRing" ["ring"]) (XH : ExTxt P K mg CH fH' "BadHanded" ["handed"])
    (DP : Def P w K mg base (L2.CX P w) "can_be_played" 10 ["code", "ring"] (spCanP K C CC)) (DH : Def P w K mg base (L2.CX P w) "can_be_handed" 8 ["kind", "ring", "handed"] (spCanH K))
    (TS_ : ClsT K mg CS "State" stNames) (MS : Mk K CS fSI) (GS : FnOk P w K mg base CX0 2 fSI dSI nSI (spStateI K C CC CS)) (bS : L2.Binds K dSI nSI [])
    (TP : ClsT K mg CP "Play" playNames) (MP : Mk K CP fPI) (GP : FnOk P w K mg base CX0 1 fPI dPI nPI (spPlayI K CS CP)) (bP : L2.Binds K dPI nPI [])
    (DL : Def P w K mg base CX0 "play_lines" 3 ["state"] (spPlayL K C CC CS)) (DB : Def P w K mg base (L2.CX P w) "broken_promises" 10 ["state", "ended", "handed"] (spBrk K C CC CS)) :
    Def P w K mg base (L2.CX P w) "play" 11 ["code", "ring", "handed"] (spPlay K C CC CR CH CP) := by
  obtain ⟨fP, dP, GCP, gP, kP, bCP⟩ := DP
  obtain ⟨fH, dH, GH, gH, kH, bH⟩ := DH
  obtain ⟨fL, dL, GL, gL, kL, bL⟩ := DL
  obtain ⟨fB, dB, GB_, gB, kB, bB⟩ := DB
  refine R.def fun f fd F => F.okX scPlay (fun vs H Q E h => ?_) (fun cdv A outer s H vs Q E hr h => ?_)
  · obtain ⟨c, k, wy, text, Ls, v, u, d, e, rfl, _⟩ := h
    rfl
  · obtain ⟨c, k, wy, text, Ls, v, u, d, e, rfl, cp, wx, idle, dv, sd, du, plt, pc⟩ := h
    have hr8 : Room 8 _ := hr.mono (by decide)
    have hr3 : Room 3 _ := hr.mono (by decide)
    have hr2 : Room 2 _ := hr.mono (by decide)
    have hr1 : Room 1 _ := hr.mono (by decide)
    refine ⟨_, pss_cons (ps_if (pt_not (pt_val (pe_call (E := E) GCP hr (by rfl) gP kP bCP .nil (passes_call (takes_of rfl rfl rfl rfl) (fun _ _ _ _ z => z)) (pa_cons (pv 0) (pa_cons (pv 1) pa_nil))))) (pss_one (ps_raiseX rfl XR hr1 (takes_of rfl rfl rfl rfl) (pa_cons (pv 1) pa_nil))) pss_nil)
      (pss_cons (ps_if (pt_not (pt_val (pe_call (E := E) GH hr8 (by rfl) gH kH bH .nil (passes_call (takes_of rfl rfl rfl rfl) (fun _ _ _ _ z => z)) (pa_cons (pe_fld (pv 0) rfl) (pa_cons (pv 1) (pa_cons (pv 2) pa_nil)))))) (pss_one (ps_raiseX rfl XH hr1 (takes_of rfl rfl rfl rfl) (pa_cons (pv 2) pa_nil))) pss_nil)
      (pss_cons (ps_set (i := 3) scPlay.nd rfl (Or.inl rfl) (pe_make MS GS hr3 (by rfl) TS_.gC bS .nil pass0 (pa_cons (pv 0) (pa_cons (pv 1) (pa_cons (pv 2) pa_nil)))))
      (pss_cons (ps_set (i := 4) scPlay.nd rfl (Or.inl rfl) (pe_call GL hr3 (by rfl) gL kL bL .nil pass0 (pa_cons (pv 3) pa_nil)))
      (pss_one (ps_ret (pe_make MP GP hr2 (by rfl) TP.gC bP .nil pass0 (pa_cons (pv 3) (pa_cons (pv 4) (pa_cons (pe_call (E := E) GB_ hr (by rfl) gB kB bB .nil (passes_call (takes_of rfl rfl rfl rfl) (fun _ _ _ _ z => z)) (pa_cons (pv 3) (pa_cons (pv 4) (pa_cons (pv 2) pa_nil)))) pa_nil))))))))), ?_⟩
    obtain ⟨dc, tt, tp, ps, hc, hc2, hc3⟩ := id cp
    refine ⟨_, rfl, _, rfl, c, k, wy, text, Ls, v, d, rfl, cp, wx, dv, sd, plt, fun b H1 hb s1 => ⟨_, rfl, ?_⟩⟩
    rcases pc with ⟨np, rz⟩ | ⟨pb, ds, rfl, hlen, pc⟩
    · cases b with
      | true => exact absurd (hb.mp rfl) np
      | false => exact iteT ⟨_, rfl, rfl, fun h => (nomatch h), fun _ dd hd => rz H1 dd s1 hd⟩
    · cases b with
      | false => exact absurd (hb.mpr pb) (by decide)
      | true =>
        obtain ⟨ds', e1, hring, hlaw, _⟩ := id pb
        cases e1
        obtain ⟨a, xs, rfl, sq, dp⟩ := dp_tup dv
        refine iteF ⟨_, rfl, c, CC, dc, _, _, rfl, s1 _ _ hc, TT.cl, TT.no _ (by simp [codeNames]), cd_kind .., _, rfl, _, rfl, k, a, ds, u, e, rfl, dv.keep s1, hring, by omega, du.keep s1, fun H2 s2 => ⟨_, rfl, ?_⟩⟩
        have s12 := s1.trans s2
        rcases pc with ⟨hf, rz⟩ | ⟨ht, fin⟩
        · rw [hf]
          exact iteT ⟨_, rfl, rfl, fun h => (nomatch h), fun _ dd hd => rz H2 dd s12 hd⟩
        · rw [ht]
          refine iteF ⟨_, rfl, _, rfl, _, rfl, ?_⟩
          have hx : 0 < xs.length := by rw [dp.length]; exact (ring_open hring).2
          have hv : (k = "take" ∧ ∃ i, u = .int i) ∨ (k ≠ "take" ∧ ∃ (b : Addr) (ky hs : Int) (rr : List V), u = .ref b ∧ SqT K H2 b (.int ky :: .int hs :: rr)) := by
            have h2 := ht
            unfold HandB at h2
            by_cases ck : k = "take"
            · rw [if_pos ck] at h2
              cases e with
              | int i => cases du; exact .inl ⟨ck, i, rfl⟩
              | _ => cases h2
            · rw [if_neg ck] at h2
              obtain ⟨b, rr, rfl, q⟩ := handed_parts (Bool.and_eq_true_iff.mp h2).1 (du.keep s12)
              exact .inr ⟨ck, b, _, _, rr, rfl, q⟩
          intro p dx hp0 hd0 hne0
          have s0 := made_same (o := .own p) (u := .ins CS dx []) hp0 hd0
          have hv' : (k = "take" ∧ ∃ i, u = .int i) ∨ (k ≠ "take" ∧ ∃ (b : Addr) (ky hs : Int) (rr : List V), u = .ref b ∧ SqT K (upd (upd H2 dx (.own p)) p (.ins CS dx [])) b (.int ky :: .int hs :: rr)) := hv.imp id fun ⟨z, b, ky, hs, rr, e, q⟩ => ⟨z, b, ky, hs, rr, e, s0.sqT q⟩
          refine ⟨p, dx, c, a, u, k, wy, text, Ls, xs, rfl, upd_same, (cp.same s12).same s0, s0.sqT (s12.sqT sq), hx, hv', fun r g pl sd' mt hd ky x' y' H3 ex _ ng0 npl0 _ _ S => ⟨rfl, ?_⟩⟩
          have s3 : Same H2 H3 := fun b o h => ex b o (ne_of_none h hp0) (s0 _ _ h)
          have ng := made_fresh ng0
          have npl := made_fresh npl0
          have s123 := s12.trans s3
          refine ⟨_, rfl, p, dx, c, a, r, g, hd, ky, pl, sd', mt, xs, x', y', k, wy, text, Ls, rfl, S, cp.same s123, idle, fun pls H4 hpls S4 s4 => ?_⟩
          have s234 : Same H2 H4 := fun b o h => s4 b o (by rw [del_ne (ne_of_none h npl), del_ne (ne_of_none h ng)]; exact s3 b o h)
          have s1234 := s12.trans s234
          refine ⟨_, rfl, _, rfl, _, rfl, _, rfl, _, rfl, p, dx, c, a, r, g, hd, ky, pl, sd', mt, xs, x', y', pls, k, wy, text, Ls, ds, u, e, rfl, S4, cp.same s1234, wx, dv.keep s1234, dp.keep s1234, hring, hlen, du.keep s1234, ht, fun bv H5 s5 => ?_⟩
          have s12345 := s1234.trans s5
          intro q dq hq0 hd1 hne1
          have s5' := made_same (o := .own q) (u := .ins CP dq []) hq0 hd1
          refine ⟨q, dq, p, dx, c, a, r, g, hd, ky, pl, sd', mt, xs, x', y', pls, bv, rfl, upd_same, (S4.same s5).same s5', hpls, fun l a1 a2 a3 H6 ex6 h6 h7 => ⟨rfl, ?_⟩⟩
          exact fin a xs q dq l bv a1 a2 a3 H6 rfl sq dp (fun b o h => ex6 b o (ne_of_none (s12345 _ _ h) hq0) (s5' _ _ (s12345 _ _ h))) h6 h7
end
end K40

namespace K40
open PySem PySem.Spec PyProof.Rows L2 Rg PySem.RingX
open Fm hiding D
theorem xf_of {prog : Program} {K : PySem.W.Frag} {mg : Str → Option Value} {C fI : Addr} {nm : Str} {fs : List Str} (T : ExTxt prog K mg C fI nm fs) : XfC K C := ⟨T.ga, T.gg, T.exC, T.hdC⟩
theorem takes_len {X : Cx} {W : WX} (tk : Takes X W) : Takes X (fun cls d σ H => σ.length = X.N.length → W cls d σ H) := fun u s' ⟨a, B, sI, pins, σ, H, cls, d, e, I, nb, up, sky, na, os, ag, w⟩ =>
  tk u s' ⟨a, B, sI, pins, σ, H, cls, d, e, I, nb, up, sky, na, os, ag, w I.len⟩
theorem set_len4 {σ : L2.St} (h : σ.length = 4) (v : Option V) : (σ.set 3 v)[3]? = some v := by
  rw [List.getElem?_set, if_pos rfl, if_pos (by omega)]
/-- how the two errors stand -/
structure RelP (K : PySem.W.Frag) (mg : Str → Option Value) (CR CH RE : Addr) : Prop where
  gR : mg "RingError" = some (.ref RE)
  ex : ∀ C ∈ [CR, CH], PySem.W.exmOne K (.ref C) (.ref RE) = some true
  xc : ∀ C ∈ [CR, CH], ExcC K C
  rr : PySem.W.kitOne K (.ref CR) (.ref CR) = some true
  hr : PySem.W.kitOne K (.ref CH) (.ref CR) = some false
  hh : PySem.W.kitOne K (.ref CH) (.ref CH) = some true
section
variable {P : Program} {w : World} {K : PySem.W.Frag} {mg : Str → Option Value} {base : Heap}
def spTold (K : PySem.W.Frag) (C CC : Addr) : Sp := fun vs H Q _ => ∃ (c : Addr) (k wy text : Str) (Ls : List LineM) (v u : V) (d e : D), vs = [.ref c, v, u] ∧ CodeP K C CC H c k wy text Ls ∧ wayM wy = true ∧ Idle Ls ∧ Dp K H v d ∧ Short d ∧ Dp K H u e ∧ (∀ a, v = .ref a → putSet k = true → ringD d = true → PlT K H a) ∧
  ((¬ PlayB k wy d ∧ ∀ p H', H p = none → Same H H' → H' p = some (.tup [.str "ring", v]) → Q (.ref p) H') ∨
   (PlayB k wy d ∧ ∃ ds, d = .tuple ds ∧ ds.length ≤ 60 ∧ ((HandB k ds e = false ∧ ∀ p H', H p = none → Same H H' → H' p = some (.tup [.str "handed", u]) → Q (.ref p) H') ∨ (HandB k ds e = true ∧ ∀ H', Same H H' → Q (.str "done") H'))))
def nTd : List Str := ["code", "ring", "thing", "e"]
theorem scTd : FnScope nTd ["code", "ring", "thing"] (defScope s__law_told) := ⟨rfl, rfl, rfl, by decide +kernel, rfl, by decide +kernel, by decide +kernel⟩
theorem ok_told {f C CC CP CR CH RE fR' fH' : Addr} {fd : FuncData} (F : Fun K "_law_told" "_law_told" s__law_told f fd) (TG : GT mg) (TP : ClsT K mg CP "Play" playNames) (XR : ExTxt P K mg CR fR' "BadRing" ["ring"]) (XH : ExTxt P K mg CH fH' "BadHanded" ["handed"]) (S : RelP K mg CR CH RE)
    (DP : Def P w K mg base (L2.CX P w) "play" 11 ["code", "ring", "handed"] (spPlay K C CC CR CH CP)) : FnOk P w K mg base CX0 12 f fd ["code", "ring", "thing"] (spTold K C CC) := by
  obtain ⟨fP, dP, GP, gP, kP, bP⟩ := DP
  refine F.ok scTd (fun vs H Q E h => ?_) (fun cdv A outer s H vs Q E hr h => ?_)
  · obtain ⟨c, k, wy, text, Ls, v, u, d, e, rfl, _⟩ := h
    rfl
  · obtain ⟨c, k, wy, text, Ls, v, u, d, e, rfl, cp, wx, idle, dv, sd, du, plt, pc⟩ := h
    refine ⟨_, pss_one (ps_try_cl (Wout := fun _ _ _ _ => False) rfl rfl scTd.nd takes0
        (fun W pn xe tk _ => pss_one (ps_ret (show PE _ _ (tFld K (tCall (spPlay K C CC CR CH CP) [] (fun cls d H' => ∀ σ : L2.St, σ.length = 4 → W cls d σ H') (tCons (tVar 0) (tCons (tVar 1) (tCons (tVar 2) tNil)))) "ended") from pe_fld (pe_call (E := fun cls d H' => ∀ σ : L2.St, σ.length = 4 → W cls d σ H') GP hr (by rfl) gP kP bP .nil (passes_call (takes_len tk) (fun _ _ σ _ z hl => z σ hl)) (pa_cons (pv 0) (pa_cons (pv 1) (pa_cons (pv 2) pa_nil)))) rfl)))
        (.named (i := 3) rfl rfl ⟨rfl, by decide, Or.inl S.gR⟩ (fun a oe cls d pn hz hf hb =>
          pss_cons (ps_if (pt_val (pe_callB (call_isX hz hf) (by rfl) TG.isi (by decide +kernel) (pa_cons (pv 3) (pa_cons (pe_glob (v := .ref CR) (by rfl) XR.gC rfl) pa_nil)))) (pss_one (ps_ret (pe_tup (pa_cons pe_str (pa_cons (pe_xf (xf_of XR) (XR.noN _ List.mem_cons_self) hz hf (pv 3)) pa_nil))))) pss_nil)
          (pss_one (ps_ret (pe_ifExp (pt_val (pe_callB (call_isX hz hf) (by rfl) TG.isi (by decide +kernel) (pa_cons (pv 3) (pa_cons (pe_glob (v := .ref CH) (by rfl) XH.gC rfl) pa_nil))))
            (pe_tup (pa_cons pe_str (pa_cons (pe_xf (xf_of XH) (XH.noN _ List.mem_cons_self) hz hf (pv 3)) pa_nil))) (pe_tup (pa_cons pe_str pa_nil))))))
          .nil)), ?_⟩
    have sd2 : ∀ {H' : Hp} {dd p : Addr} {o u : HO}, Same H H' → H' dd = none → upd H' dd o p = none → H p = none ∧ Same H (upd (upd H' dd o) p u) := fun {H' dd p o u} s n hp => by
      have s2 : Same H (upd H' dd o) := s.trans (same_upd n)
      refine ⟨?_, s2.trans (same_upd hp)⟩
      cases e : H p with
      | none => rfl
      | some v => rw [s2 _ _ e] at hp; cases hp
    refine ⟨_, rfl, _, rfl, _, rfl, c, k, wy, text, Ls, v, u, d, e, rfl, cp, wx, idle, dv, sd, du, plt, ?_⟩
    rcases pc with ⟨np, kQ⟩ | ⟨pb, ds, rfl, hlen, pc⟩
    · refine .inl ⟨np, fun H' dd s n σ hl => ⟨true, S.ex _ (by simp), fun _ a0 na => ?_, fun q => nomatch q⟩⟩
      refine ⟨_, set_len4 hl _, _, _, CR, true, rfl, rfl, S.xc _ (by simp), .inr ⟨dd, _, rfl, upd_same⟩, .own CR, S.rr, true, rfl, iteT ?_⟩
      refine ⟨_, set_len4 hl _, rfl, rfl, dd, _, _, rfl, upd_same, rfl, (by show 2 ≤ sizeLine; decide), fun p hp => ?_⟩
      obtain ⟨p0, sp⟩ := sd2 s n hp
      exact kQ p _ p0 sp upd_same
    · refine .inr ⟨pb, ds, rfl, hlen, ?_⟩
      rcases pc with ⟨hf, kQ⟩ | ⟨ht, kQ⟩
      · refine .inl ⟨hf, fun H' dd s n σ hl => ⟨true, S.ex _ (by simp), fun _ a0 na => ?_, fun q => nomatch q⟩⟩
        refine ⟨_, set_len4 hl _, _, _, CH, false, rfl, rfl, S.xc _ (by simp), .inr ⟨dd, _, rfl, upd_same⟩, .own CR, S.hr, false, rfl, iteF ?_⟩
        refine ⟨_, set_len4 hl _, _, _, CH, true, rfl, rfl, S.xc _ (by simp), .inr ⟨dd, _, rfl, upd_same⟩, .own CH, S.hh, true, rfl, iteT ?_⟩
        refine ⟨_, set_len4 hl _, rfl, rfl, dd, _, _, rfl, upd_same, rfl, (by show 2 ≤ sizeLine; decide), fun p hp => ?_⟩
        obtain ⟨p0, sp⟩ := sd2 s n hp
        exact kQ p _ p0 sp upd_same
      · refine .inr ⟨ht, fun a xs q dq l a0 a1 a2 a3 H' ev sq _ s h1 h2 => ?_⟩
        exact ⟨q, CP, dq, _, _, rfl, h1, TP.cl, TP.no _ (by simp [playNames]), pl_ended .., kQ _ s⟩
end
end K40

/-! ## The drawn ring -/
namespace Rg
open PySem
/-- the item that stands in the row i of m, with its hash -/
def itD (i m : Nat) (h : Int) : D := .tuple [.int ((i : Int) * 3 - m), .int h, .int ((i : Int) + 50)]
theorem itD_T (i m : Nat) (h : Int) : isT (itD i m h) = true := rfl
/-- rows that are drawn up to pl; the item in the row i begins to be looked for in the row sp i -/
structure RInv (way : Str) (m : Nat) (turn : Int) (rs : List D) (pl : Nat) (sp : Nat → Nat) : Prop where
  len : rs.length = m
  pos : 0 < m
  z0 : rs[0]? = some .none
  up : ∀ i, pl ≤ i → i < m → rs[i]? = some .none
  row : ∀ i, i < m → rs[i]? = some .none ∨ (rs[i]? = some (.str "stone") ∧ way = "stones") ∨ (∃ M : Int, 0 ≤ M ∧ rs[i]? = some (itD i m (sp i + turn + m * M)) ∧ sp i ≤ i ∧ ∀ j, sp i ≤ j → j ≤ i → rs[j]? ≠ some .none)
  ord : way = "sorted" → ∀ i d e, rs[i]? = some d → rs[i + 1]? = some e → isT d = true → isT e = true → sp i ≤ sp (i + 1)
/-- the chain that is being drawn -/
structure Chain (way : Str) (m : Nat) (rs : List D) (pl : Nat) (sp : Nat → Nat) (cs low : Nat) : Prop where
  c1 : 1 ≤ cs
  cl : cs ≤ low
  lp : low ≤ pl
  fill : ∀ j, cs ≤ j → j < pl → rs[j]? ≠ some .none
  ls : way = "sorted" → (cs < pl → sp (pl - 1) ≤ low) ∧ (cs = pl → pl ≤ m → rs[pl - 1]? = some .none)
theorem RInv.start (way : Str) {m : Nat} (h : 0 < m) (turn : Int) (sp : Nat → Nat) : RInv way m turn (List.replicate m .none) 0 sp := by
  have g : ∀ i, i < m → (List.replicate m PyData.none)[i]? = some .none := fun i hi => by rw [List.getElem?_replicate, if_pos hi]
  refine ⟨List.length_replicate, h, g 0 h, fun i _ hi => g i hi, fun i hi => .inl (g i hi), fun _ i d e h1 h2 t _ => ?_⟩
  obtain ⟨_, h1⟩ := List.getElem?_eq_some_iff.mp h1
  rw [List.getElem_replicate] at h1
  subst h1
  cases t
/-- on to the next chain -/
theorem RInv.next {way : Str} {m : Nat} {turn : Int} {rs : List D} {pl : Nat} {sp : Nat → Nat} (R : RInv way m turn rs pl sp) {q : Nat} (h : pl < q) : RInv way m turn rs q sp ∧ Chain way m rs q sp q q :=
  ⟨⟨R.len, R.pos, R.z0, fun i h1 h2 => R.up i (by omega) h2, R.row, R.ord⟩, by omega, Nat.le_refl _, Nat.le_refl _, fun j h1 h2 => absurd h2 (by omega), fun _ => ⟨fun z => absurd z (by omega), fun _ h3 => R.up (q - 1) (by omega) (by omega)⟩⟩
theorem set_get {rs : List D} {p : Nat} {d : D} (h : p < rs.length) (j : Nat) : (rs.set p d)[j]? = if j = p then some d else rs[j]? := by
  by_cases e : j = p
  · rw [if_pos e, e, List.getElem?_set_self h]
  · rw [if_neg e, List.getElem?_set_ne (fun z => e z.symm)]
/-- one item more -/
theorem RInv.add {way : Str} {m : Nat} {turn : Int} {rs : List D} {pl : Nat} {sp : Nat → Nat} {cs low : Nat} (R : RInv way m turn rs pl sp) (C : Chain way m rs pl sp cs low) (hp : pl < m) {spot : Nat} (h1 : low ≤ spot) (h2 : spot ≤ pl) {M : Int} (hM : 0 ≤ M) :
    RInv way m turn (rs.set pl (itD pl m (spot + turn + m * M))) (pl + 1) (fun i => if i = pl then spot else sp i) ∧ Chain way m (rs.set pl (itD pl m (spot + turn + m * M))) (pl + 1) (fun i => if i = pl then spot else sp i) cs (if way = "sorted" then spot else low) := by
  have hl : pl < rs.length := by rw [R.len]; exact hp
  have g := fun j => set_get (d := itD pl m (spot + turn + m * M)) hl j
  have c1 := C.c1
  have cl := C.cl
  have lp := C.lp
  have nn : ∀ j, (rs[j]? ≠ some .none ∨ j = pl) → (rs.set pl (itD pl m (spot + turn + m * M)))[j]? ≠ some .none := fun j h => by
    rw [g]
    by_cases e : j = pl
    · rw [if_pos e]; intro z; cases z
    · rw [if_neg e]; exact h.resolve_right e
  refine ⟨⟨by rw [List.length_set]; exact R.len, R.pos, ?_, fun i hi hm => ?_, fun i hi => ?_, fun hw i d e hd he td te => ?_⟩, c1, ?_, ?_, fun j hj1 hj2 => nn j ?_, fun hw => ⟨fun _ => ?_, fun z => absurd z (by omega)⟩⟩
  · rw [g, if_neg (by omega)]; exact R.z0
  · rw [g, if_neg (by omega)]; exact R.up i (by omega) hm
  · by_cases e : i = pl
    · refine .inr (.inr ⟨M, hM, ?_, ?_, fun j hj1 hj2 => nn j ?_⟩)
      · rw [g, if_pos e, if_pos e, e]
      · rw [if_pos e]; omega
      · rw [if_pos e] at hj1
        by_cases e2 : j = pl
        · exact .inr e2
        · exact .inl (C.fill j (by omega) (by omega))
    · have gi : (rs.set pl (itD pl m (spot + turn + m * M)))[i]? = rs[i]? := by rw [g, if_neg e]
      rw [gi, if_neg e]
      rcases R.row i hi with h | h | ⟨M', a, b, c, f⟩
      · exact .inl h
      · exact .inr (.inl h)
      · exact .inr (.inr ⟨M', a, b, c, fun j hj1 hj2 => nn j (.inl (f j hj1 hj2))⟩)
  · rw [g] at hd he
    by_cases e1 : i = pl
    · rw [if_neg (by omega)] at he
      by_cases hm : i + 1 < m
      · rw [R.up (i + 1) (by omega) hm] at he
        cases he; cases te
      · rw [List.getElem?_eq_none (by rw [R.len]; omega)] at he
        cases he
    · rw [if_neg e1] at hd
      show (if i = pl then spot else sp i) ≤ if i + 1 = pl then spot else sp (i + 1)
      rw [if_neg e1]
      by_cases e2 : i + 1 = pl
      · rw [if_pos e2]
        obtain ⟨l1, l2⟩ := C.ls hw
        have ei : i = pl - 1 := by omega
        by_cases e3 : cs = pl
        · rw [ei, l2 e3 (by omega)] at hd
          cases hd; cases td
        · have := l1 (by omega)
          rw [ei]; omega
      · rw [if_neg e2] at he ⊢
        exact R.ord hw i d e hd he td te
  · split <;> omega
  · split <;> omega
  · by_cases e : j = pl
    · exact .inr e
    · exact .inl (C.fill j hj1 (by omega))
  · show (if pl + 1 - 1 = pl then spot else _) ≤ _
    rw [if_pos (by omega), if_pos hw]
    exact Nat.le_refl _
/-- the last item gives way to a stone -/
theorem RInv.stone {m : Nat} {turn : Int} {rs : List D} {pl : Nat} {sp : Nat → Nat} {cs low : Nat} (R : RInv "stones" m turn rs (pl + 1) sp) (C : Chain "stones" m rs (pl + 1) sp cs low) (hp : pl < m) (h1 : 1 ≤ pl) :
    RInv "stones" m turn (rs.set pl (.str "stone")) (pl + 1) sp ∧ Chain "stones" m (rs.set pl (.str "stone")) (pl + 1) sp cs low := by
  have hl : pl < rs.length := by rw [R.len]; exact hp
  have g := fun j => set_get (d := .str "stone") hl j
  have nn : ∀ j, rs[j]? ≠ some PyData.none → (rs.set pl (.str "stone"))[j]? ≠ some PyData.none := fun j h => by
    rw [g]
    by_cases e : j = pl
    · rw [if_pos e]; intro z; cases z
    · rw [if_neg e]; exact h
  have ne : ("stones" : Str) ≠ "sorted" := by decide +kernel
  refine ⟨⟨by rw [List.length_set]; exact R.len, R.pos, ?_, fun i hi hm => ?_, fun i hi => ?_, fun hw => absurd hw ne⟩, C.c1, C.cl, C.lp, fun j hj1 hj2 => nn j (C.fill j hj1 hj2), fun hw => absurd hw ne⟩
  · rw [g, if_neg (by omega)]; exact R.z0
  · rw [g, if_neg (by omega)]; exact R.up i hi hm
  · by_cases e : i = pl
    · exact .inr (.inl ⟨by rw [g, if_pos e], rfl⟩)
    · have gi : (rs.set pl (.str "stone"))[i]? = rs[i]? := by rw [g, if_neg e]
      rw [gi]
      rcases R.row i hi with h | h | ⟨M', a, b, c, f⟩
      · exact .inl h
      · exact .inr (.inl h)
      · exact .inr (.inr ⟨M', a, b, c, fun j hj1 hj2 => nn j (f j hj1 hj2)⟩)
theorem count_set {d : D} (hd : emp d = false) : ∀ {rs : List D} {p : Nat} {x : D}, rs[p]? = some x → (rs.set p d).countP emp + (if emp x = true then 1 else 0) = rs.countP emp
  | a :: r, 0, x, h => by
    cases h
    rw [List.set_cons_zero, List.countP_cons, List.countP_cons, hd, if_neg (by decide), Nat.add_zero]
  | a :: r, p + 1, x, h => by
    have := count_set hd (rs := r) (p := p) (x := x) h
    rw [List.set_cons_succ, List.countP_cons, List.countP_cons]
    omega
/-- the rows turned -/
def turned (m : Nat) (turn : Int) (rs : List D) : List D := (List.range m).map fun (r : Nat) => row rs ((r : Int) - turn)
section
variable {way : Str} {m : Nat} {turn : Int} {rs : List D} {pl : Nat} {sp : Nat → Nat}
theorem turned_len : (turned m turn rs).length = m := by unfold turned; rw [List.length_map, List.length_range]
theorem turned_get {r : Nat} (h : r < (turned m turn rs).length) : (turned m turn rs)[r] = row rs ((r : Int) - turn) := by
  have e : (turned m turn rs)[r]? = some (row rs ((r : Int) - turn)) := by
    unfold turned
    rw [List.getElem?_map, List.getElem?_range (by rw [turned_len] at h; exact h)]
    rfl
  exact (List.getElem?_eq_some_iff.mp e).2
theorem turned_row (h : rs.length = m) (r : Int) : row (turned m turn rs) r = row rs (r - turn) := by
  by_cases hm : m = 0
  · subst hm
    have e : rs = [] := List.length_eq_zero_iff.mp h
    subst e
    rfl
  have hp : (0 : Int) < m := by omega
  have h0 := Int.emod_nonneg r (show (m : Int) ≠ 0 by omega)
  have h1 := Int.emod_lt_of_pos r hp
  have e : row (turned m turn rs) r = row rs (((r % (m : Int)).toNat : Int) - turn) := by
    have hlt : (r % (m : Int)).toNat < (turned m turn rs).length := by rw [turned_len]; omega
    rw [← row_mod, turned_len]
    have := row_nat hlt
    rw [Int.toNat_of_nonneg h0] at this
    rw [this, turned_get]
  rw [e, Int.toNat_of_nonneg h0]
  refine row_congr ?_
  rw [h, Int.sub_emod, Int.emod_emod_of_dvd _ (Int.dvd_refl _), ← Int.sub_emod]
theorem turned_perm (h : rs.length = m) (t0 : 0 ≤ turn) (t1 : turn < m) : (turned m turn rs).Perm rs := by
  obtain ⟨t, rfl⟩ : ∃ t : Nat, turn = t := ⟨turn.toNat, by omega⟩
  have ht : t < m := by omega
  have e : turned m (t : Int) rs = rs.drop (m - t) ++ rs.take (m - t) := by
    refine List.ext_getElem (by rw [turned_len, List.length_append, List.length_drop, List.length_take]; omega) fun r h1 h2 => ?_
    rw [turned_get]
    rw [turned_len] at h1
    by_cases c : r < t
    · have e1 : row rs ((r : Int) - t) = row rs ((r + (m - t) : Nat) : Int) := row_congr (by
        rw [h, show (r : Int) - t = ((r + (m - t) : Nat) : Int) + m * (-1) by omega, Int.add_mul_emod_self_left])
      rw [e1, row_nat (by omega), List.getElem_append_left (by rw [List.length_drop]; omega), List.getElem_drop]
      congr 1
      omega
    · have e1 : row rs ((r : Int) - t) = row rs ((r - t : Nat) : Int) := by congr 1; omega
      rw [e1, row_nat (by omega), List.getElem_append_right (by rw [List.length_drop]; omega), List.getElem_take]
      congr 1
      rw [List.length_drop]
      omega
  rw [e]
  refine List.perm_append_comm.trans ?_
  rw [List.take_append_drop]
/-- an item among the rows that are drawn -/
theorem rinv_item (R : RInv way m turn rs pl sp) {i : Nat} (hi : i < m) (ht : isT (row rs (i : Int)) = true) : ∃ M : Int, 0 ≤ M ∧ row rs (i : Int) = itD i m (sp i + turn + m * M) ∧ sp i ≤ i ∧ 1 ≤ i ∧ ∀ j : Nat, sp i ≤ j → j ≤ i → ¬ E rs (j : Int) := by
  have gi := row_get? (ds := rs) (i := i) (by rw [R.len]; exact hi)
  rcases R.row i hi with h | ⟨h, _⟩ | ⟨M, a, b, c, f⟩
  · rw [gi] at h
    rw [Option.some.inj h] at ht
    cases ht
  · rw [gi] at h
    rw [Option.some.inj h] at ht
    cases ht
  · rw [gi] at b
    refine ⟨M, a, Option.some.inj b, c, ?_, fun j h1 h2 z => f j h1 h2 ?_⟩
    · refine Nat.one_le_iff_ne_zero.mpr fun z => ?_
      have z0 := R.z0
      rw [z] at ht
      rw [row_get? (ds := rs) (i := 0) (by rw [R.len]; exact R.pos)] at z0
      rw [Option.some.inj z0] at ht
      cases ht
    · rw [row_get? (ds := rs) (i := j) (by rw [R.len]; omega)]
      rw [emp_none.mp z]
/-- where a row of the turned ones stood -/
theorem unturn (R : RInv way m turn rs pl sp) (r : Int) : ∃ i : Nat, i < m ∧ (i : Int) = (r - turn) % m ∧ row (turned m turn rs) r = row rs (i : Int) := by
  have h0 := Int.emod_nonneg (r - turn) (show (m : Int) ≠ 0 by have := R.pos; omega)
  have h1 := Int.emod_lt_of_pos (r - turn) (show (0 : Int) < m by have := R.pos; omega)
  refine ⟨((r - turn) % (m : Int)).toNat, by omega, by omega, ?_⟩
  rw [turned_row R.len, Int.toNat_of_nonneg h0]
  have e := row_mod rs (r - turn)
  rw [R.len] at e
  exact e.symm
theorem gap_turned (R : RInv way m turn rs pl sp) {r : Int} {i : Nat} {M : Int} (hi : i < m) (ei : (i : Int) = (r - turn) % m) (er : row (turned m turn rs) r = itD i m (sp i + turn + m * M)) (hs : sp i ≤ i) : gap (turned m turn rs) r = (i : Int) - sp i := by
  unfold gap
  rw [er, turned_len]
  show (r - ((sp i : Int) + turn + m * M)) % (m : Int) = _
  have e2 : r - ((sp i : Int) + turn + m * M) = (r - turn - sp i) + m * (-M) := by
    rw [Int.mul_neg]; omega
  rw [e2, Int.add_mul_emod_self_left, Int.sub_emod, ← ei, Int.emod_eq_of_lt (a := (sp i : Int)) (by omega) (by omega), Int.emod_eq_of_lt (by omega) (by omega)]
theorem ring_ok (R : RInv way m turn rs pl sp) (t0 : 0 ≤ turn) (t1 : turn < m) {n : Nat} (hn : 1 ≤ n) (hc : n ≤ rs.countP emp) (hm : m ≤ 60) :
    ringL (turned m turn rs) = true ∧ n ≤ (turned m turn rs).countP emp ∧ (∀ d ∈ turned m turn rs, isT d = true → keyD d < 1000) ∧ Reached (turned m turn rs) ∧ (way ≠ "stones" → NoStone (turned m turn rs)) ∧ (way = "sorted" → InOrder (turned m turn rs)) := by
  have pm := turned_perm (rs := rs) R.len t0 t1
  have at_ : ∀ d ∈ rs, d = .none ∨ (d = .str "stone" ∧ way = "stones") ∨ ∃ (i : Nat) (M : Int), i < m ∧ 0 ≤ M ∧ d = itD i m (sp i + turn + m * M) := fun d hd => by
    obtain ⟨i, hi, e⟩ := List.getElem_of_mem hd
    have gi : rs[i]? = some d := by rw [List.getElem?_eq_getElem hi, e]
    rcases R.row i (by rw [← R.len]; exact hi) with h | ⟨h, hw⟩ | ⟨M, a, b, _⟩
    · rw [gi] at h; exact .inl (Option.some.inj h)
    · rw [gi] at h; exact .inr (.inl ⟨Option.some.inj h, hw⟩)
    · rw [gi] at b; exact .inr (.inr ⟨i, M, by rw [← R.len]; exact hi, a, Option.some.inj b⟩)
  have cnt : (turned m turn rs).countP emp = rs.countP emp := pm.countP_eq _
  have rowsOk : (turned m turn rs).all rowD = true := List.all_eq_true.mpr fun d hd => by
    rcases at_ d (pm.mem_iff.mp hd) with rfl | ⟨rfl, _⟩ | ⟨i, M, _, hM, rfl⟩
    · rfl
    · decide +kernel
    · have : (0 : Int) ≤ sp i + turn + m * M := by
        have := Int.mul_nonneg (show (0 : Int) ≤ m by omega) hM
        omega
      unfold rowD
      rw [show itemD (itD i m (sp i + turn + m * M)) = true from decide_eq_true this, Bool.or_true]
  have anyOk : (turned m turn rs).any emp = true := by
    have : 0 < (turned m turn rs).countP emp := by omega
    obtain ⟨d, hd, he⟩ := List.countP_pos_iff.mp this
    exact List.any_eq_true.mpr ⟨d, hd, he⟩
  have keysOk : keysDiffer ((turned m turn rs).filter isT) = true := by
    refine decide_eq_true (((pm.filter isT).map keyD).nodup_iff.mpr ?_)
    refine List.pairwise_map.mpr ?_
    have pr : rs.Pairwise fun a b => isT a = true → isT b = true → keyD a ≠ keyD b := by
      refine List.pairwise_iff_getElem.mpr fun i j hi hj hij ta tb e => ?_
      have li := R.len
      obtain ⟨Mi, _, ei, _⟩ := rinv_item R (i := i) (by omega) (by rw [row_nat hi]; exact ta)
      obtain ⟨Mj, _, ej, _⟩ := rinv_item R (i := j) (by omega) (by rw [row_nat hj]; exact tb)
      rw [row_nat hi] at ei
      rw [row_nat hj] at ej
      rw [ei, ej] at e
      have e : (i : Int) * 3 - m = (j : Int) * 3 - m := e
      omega
    refine List.Pairwise.imp_of_mem (fun {a b} ha hb h => h (List.mem_filter.mp ha).2 (List.mem_filter.mp hb).2) (pr.filter isT)
  refine ⟨?_, by rw [cnt]; exact hc, fun d hd td => ?_, fun r tr j hj => ?_, fun hw r => ?_, fun hw r tr tr1 => ?_⟩
  · unfold ringL
    rw [rowsOk, anyOk, keysOk]; rfl
  · rcases at_ d (pm.mem_iff.mp hd) with rfl | ⟨rfl, _⟩ | ⟨i, M, hi, _, rfl⟩
    · cases td
    · cases td
    · show (i : Int) * 3 - m < 1000
      omega
  · obtain ⟨i, hi, ei, er⟩ := unturn R r
    rw [er] at tr
    obtain ⟨M, _, e2, hs, _, ne⟩ := rinv_item R hi tr
    rw [gap_turned R hi ei (er.trans e2) hs] at hj
    have e3 : row (turned m turn rs) (r - j) = row rs ((i - j : Nat) : Int) := by
      rw [turned_row R.len]
      refine row_congr ?_
      rw [R.len, show ((i - j : Nat) : Int) = (i : Int) - j by omega, ei, Int.sub_emod ((r - turn) % m), Int.emod_emod_of_dvd _ (Int.dvd_refl _), ← Int.sub_emod]
      congr 1
      omega
    unfold E
    rw [e3]
    exact ne (i - j) (by omega) (by omega)
  · obtain ⟨i, hi, ei, er⟩ := unturn R r
    rw [er]
    have gi := row_get? (ds := rs) (i := i) (by rw [R.len]; exact hi)
    rcases R.row i hi with h | ⟨_, h⟩ | ⟨M, a, b, _⟩
    · rw [gi] at h; rw [Option.some.inj h]; rfl
    · exact absurd h hw
    · rw [gi] at b; rw [Option.some.inj b]; rfl
  · obtain ⟨i, hi, ei, er⟩ := unturn R r
    obtain ⟨i', hi', ei', er'⟩ := unturn R (r + 1)
    have ti := tr
    rw [er] at ti
    have ti' := tr1
    rw [er'] at ti'
    obtain ⟨M, _, e2, hs, _, _⟩ := rinv_item R hi ti
    obtain ⟨M', _, e2', hs', h1', _⟩ := rinv_item R hi' ti'
    rw [gap_turned R hi ei (er.trans e2) hs, gap_turned R hi' ei' (er'.trans e2') hs']
    have nx : (i' : Int) = ((i : Int) + 1) % m := by
      rw [ei', ei, Int.emod_add_emod]
      congr 1
      omega
    by_cases c : i + 1 < m
    · rw [Int.emod_eq_of_lt (by omega) (by omega)] at nx
      have e3 : i' = i + 1 := by omega
      subst e3
      have g1 := row_get? (ds := rs) (i := i) (by rw [R.len]; exact hi)
      have g2 := row_get? (ds := rs) (i := i + 1) (by rw [R.len]; exact hi')
      have := R.ord hw i _ _ g1 g2 ti ti'
      omega
    · have e4 : (i : Int) + 1 = m := by omega
      rw [e4, Int.emod_self] at nx
      omega
end
end Rg

namespace K40
open PySem PySem.Spec PyProof.Rows L2 Rg PySem.RingX
open Fm hiding D
theorem ext_but {b c : Addr} {ns : List Int} {ct : Int} {H H' : Hp} (B : BagAt H b c ns ct) (s : SameBut b H H') : ExtT H H' := fun q o ho hq => by
  obtain ⟨kvs, hb⟩ := B.dk
  refine s q o (fun e => ?_) hq
  rw [e, hb] at hq
  cases hq
  rcases ho with ⟨xs, z⟩ | ⟨u, v, z⟩ <;> cases z
theorem tOnly_row {d : D} (h : rowD d = true) : tOnly d = true := by
  unfold rowD at h
  simp only [Bool.or_eq_true] at h
  rcases h with (h | h) | h
  · rw [emp_none.mp h]; rfl
  · cases d <;> first | rfl | cases h
  · obtain ⟨k, x, m, rfl, _⟩ := item_parts h
    rfl
/-- the heap while the rows are drawn -/
structure RS (K : PySem.W.Frag) (H H' : Hp) (b c : Addr) (ns : List Int) (ct : Int) (rw_ : Addr) (rs : List D) : Prop where
  bag : BagAt H' b c ns ct
  sb : SameBut b H H'
  hr : ∃ ys, H' rw_ = some (.lst ys) ∧ DpAll K H' ys rs
  nr : H rw_ = none
  ok : rs.all rowD = true
  nc : c ≠ rw_
section
variable {K : PySem.W.Frag} {H H1 H2 : Hp} {b c rw_ : Addr} {ns : List Int} {ct ct' : Int} {rs : List D}
theorem RS.only (S : RS K H H1 b c ns ct rw_ rs) : tOnlyAll rs = true := tOnlyAll_iff.mpr fun d hd => tOnly_row (List.all_eq_true.mp S.ok d hd)
theorem RS.draw (S : RS K H H1 b c ns ct rw_ rs) (B : BagAt H2 b c ns ct') (s : SameBut b H1 H2) : RS K H H2 b c ns ct' rw_ rs := by
  obtain ⟨ys, h1, h2⟩ := S.hr
  obtain ⟨kvs, hb⟩ := S.bag.dk
  exact ⟨B, S.sb.trans s, ⟨ys, s _ _ (ne_of h1 hb (fun z => nomatch z)) h1, DpAll.keepT (ext_but S.bag s) h2 S.only⟩, S.nr, S.ok, S.nc⟩
theorem RS.new {q : Addr} {o : HO} (S : RS K H H1 b c ns ct rw_ rs) (hq : H1 q = none) : RS K H (upd H1 q o) b c ns ct rw_ rs := by
  obtain ⟨ys, h1, h2⟩ := S.hr
  have s := same_upd (o := o) hq
  exact ⟨S.bag.keep s, S.sb.trans (SameBut.of s), ⟨ys, s _ _ h1, h2.keep s⟩, S.nr, S.ok, S.nc⟩
theorem dpAll_set {K : PySem.W.Frag} {H : Hp} : ∀ {ys : List V} {ds : List D} {v : V} {d : D} (i : Nat), DpAll K H ys ds → Dp K H v d → DpAll K H (ys.set i v) (ds.set i d)
  | _, _, _, _, _, .nil, _ => .nil
  | _, _, _, _, 0, .cons _ t, h => .cons h t
  | _, _, _, _, i + 1, .cons x t, h => .cons x (dpAll_set i t h)
theorem RS.set {v : V} {d : D} {ys : List V} (S : RS K H H1 b c ns ct rw_ rs) (h : H1 rw_ = some (.lst ys)) (i : Nat) (hv : Dp K H1 v d) (hd : rowD d = true) : RS K H (upd H1 rw_ (.lst (ys.set i v))) b c ns ct rw_ (rs.set i d) := by
  obtain ⟨ys', h1, h2⟩ := S.hr
  rw [h] at h1
  cases h1
  obtain ⟨kvs, hb⟩ := S.bag.dk
  have e := ExtT.lst (o := .lst (ys.set i v)) h
  have nb : b ≠ rw_ := ne_of hb h (fun z => nomatch z)
  refine ⟨S.bag.updl nb S.nc, fun q o hq he => ?_, ⟨_, upd_same, dpAll_set i (DpAll.keepT e h2 S.only) (hv.keepT e (tOnly_row hd))⟩, S.nr, List.all_eq_true.mpr fun x hx => ?_, S.nc⟩
  · rw [upd_ne (ne_of_none he S.nr)]; exact S.sb q o hq he
  · rcases List.mem_or_eq_of_mem_set hx with z | z
    · exact List.all_eq_true.mp S.ok x z
    · rw [z]; exact hd
end
def whB : Stmt → List Stmt | .While _ b _ _ => b | _ => []
def nLR : List Str := ["bag", "way", "m", "spare", "rows", "place", "turn", "step_v", "low", "k", "spot"]
theorem scLR : FnScope nLR ["bag", "way", "m", "spare"] (defScope s__law_ring) := ⟨rfl, rfl, rfl, by decide +kernel, rfl, by decide +kernel, by decide +kernel⟩
theorem way_three {x : Str} (h : wayM x = true) : x = "plain" ∨ x = "stones" ∨ x = "sorted" := by
  unfold wayM inV at h
  simp only [waysL, List.map_cons, List.map_nil, List.any_cons, List.any_nil, Bool.or_false, Bool.or_eq_true] at h
  rcases h with h | h | h
  · exact .inl (eq_of_beq (show (("plain" : Str) == x) = true from h)).symm
  · exact .inr (.inl (eq_of_beq (show (("stones" : Str) == x) = true from h)).symm)
  · exact .inr (.inr (eq_of_beq (show (("sorted" : Str) == x) = true from h)).symm)
theorem ixN_nat {n r : Nat} (h : r < n) : ixN n (r : Int) = some r := by
  unfold ixN
  rw [if_pos (by omega)]
  simp [h]
section
variable {P : Program} {w : World} {K : PySem.W.Frag} {mg : Str → Option Value} {base : Heap}
def spLRing (K : PySem.W.Frag) : Sp := fun vs H Q _ => ∃ (b c : Addr) (ns : List Int) (ct : Int) (way : Str) (m n : Nat), vs = [.ref b, .str way, .int (m : Nat), .int (n : Nat)] ∧ BagAt H b c ns ct ∧ 0 ≤ ct ∧ ct < 500000 ∧ ns.length < 1000 ∧ wayM way = true ∧ 1 ≤ n ∧ n ≤ m ∧ m ≤ 60 ∧
  ∀ (a : Addr) (ds : List D) (H' : Hp) (ct' : Int), 0 ≤ ct' → ct' ≤ ct + 20000 → BagAt H' b c ns ct' → SameBut b H H' → Dp K H' (.ref a) (.tuple ds) → PlT K H' a → ds.length = m → ringL ds = true → Lawful ds way → n ≤ ds.countP emp → (∀ d ∈ ds, isT d = true → keyD d < 1000) → Q (.ref a) H'
theorem ok_lring {f fD : Addr} {fd dD : FuncData} (F : Fun K "_law_ring" "_law_ring" s__law_ring f fd) (TG : GT mg) (GD : FnOk P w K mg base CX0 1 fD dD ["bag", "limit"] spDraw) (gD : mg "_law_draw" = some (.ref fD)) (kD : PySem.W.keepIn K (.ref fD) = true) (bD : L2.Binds K dD ["bag", "limit"] []) :
    FnOk P w K mg base CX0 2 f fd ["bag", "way", "m", "spare"] (spLRing K) := by
  refine F.ok scLR (fun vs H Q E h => ?_) (fun cdv A outer s H vs Q E hr h => ?_)
  · obtain ⟨b, c, ns, ct, way, m, n, rfl, _⟩ := h
    rfl
  · obtain ⟨b, c, ns, ct, way, m, n, rfl, B, c0, c1, hns, wx, hn, hnm, hm, kk⟩ := h
    have hu := hu_of hr
    obtain ⟨tE, pE, qE⟩ : ∃ tE, PSs (cxOf CX0 P w K mg base nLR "_law_ring" (defScope s__law_ring) f cdv A outer s H E).nox ((defBody s__law_ring).drop 2) tE ∧
        ∀ (D : Ends) (rw_ : Addr) (turn : Int) (rs : List Rg.D) (pl : Nat) (sp : Nat → Nat) (x5 x7 x8 x9 x10 : Option V) (H1 : Hp) (ct1 : Int), D.rt = Q → 0 ≤ turn → turn < m → ct ≤ ct1 → ct1 ≤ ct + 20000 → RS K H H1 b c ns ct1 rw_ rs → RInv way m turn rs pl sp → n ≤ rs.countP emp →
          tE D [some (.ref b), some (.str way), some (.int (m : Nat)), some (.int (n : Nat)), some (.ref rw_), x5, some (.int turn), x7, x8, x9, x10] H1 := by
      refine ⟨_, pss_one (ps_ret (pe_tupleOfF (by rfl) TG.tup (pe_lc (own := [("place", 5)]) (g := gName 5) (tt := tYes) rfl scLR.nd (pi_range1 (by rfl) TG.range (pa_cons (pv 2) pa_nil)) (blkOk_by (own := [("place", 5)]) (N := nLR) (sc := defScope s__law_ring) (by decide +kernel))
          (fun _ _ _ _ _ => pg_name (i := 5) scLR.nd rfl (Or.inl rfl)) (fun _ _ _ _ _ => pts_nil) (fun _ _ _ _ _ => pe_ix (show IxR _ (rIxL K) from ix_list) (pv 4) (pe_op op_mod (pe_callTy call_int1 (by rfl) TG.int (by decide +kernel) (pa_cons (pe_op op_sub (pv 5) (pv 6)) pa_nil)) (pv 2)) (fun _ _ => rfl))))), ?_⟩
      intro D rw_ turn rs pl sp x5 x7 x8 x9 x10 H1 ct1 hD t0 t1 k0 k1 S R hc
      obtain ⟨ys, hy, dy⟩ := id S.hr
      have yl : ys.length = m := by rw [dy.length, R.len]
      have hmp := R.pos
      refine ⟨_, rfl, _, rfl, by omega, by omega, fun A0 hA0 => lc_range (n := m) (fun i H' => Same H1 H' ∧ ∃ zs, H' A0 = some (.lst zs) ∧ DpAll K H1 zs ((List.range i).map fun (r : Nat) => row rs ((r : Int) - turn))) ⟨same_upd hA0, [], upd_same, .nil⟩ ?_ ?_⟩
      · rintro i H2 hi ⟨s2, zs, h2, d2⟩
        have e0 : (0 : Int) + (i : Int) = i := by omega
        have h0 := Int.emod_nonneg ((i : Int) - turn) (show (m : Int) ≠ 0 by omega)
        have h1 := Int.emod_lt_of_pos ((i : Int) - turn) (show (0 : Int) < m by omega)
        obtain ⟨v, hv1, hv2⟩ := dp_row dy (((i : Int) - turn) % m) (by omega) (by rw [yl]; exact h1)
        have ez : row rs (((i : Int) - turn) % (m : Int)) = row rs ((i : Int) - turn) := by
          have := row_mod rs ((i : Int) - turn)
          rw [R.len] at this
          exact this
        rw [ez] at hv2
        have zl : zs.length = i := by rw [d2.length, List.length_map, List.length_range]
        refine ⟨rfl, _, rfl, _, rfl, _, rfl, _, _, rfl, rfl, .inl ⟨_, rfl, _, rfl, _, _, rfl, rfl, (by show (0 : Int) < (m : Nat); omega), rw_, ys, _, v, rfl, rfl, SqL.of (s2 _ _ hy), ?_, _, h2, by rw [zl, sizeLine_eq]; omega, fun y o hyy => ?_, zs ++ [v], upd_same, ?_⟩⟩
        · show atI ys ((0 + (i : Int) - turn) % (m : Int)) = some v
          rw [e0]; exact hv1
        · rw [upd_ne (ne_of_none hyy hA0)]; exact s2 y o hyy
        · rw [List.range_succ, List.map_append]
          exact DpAll.snoc d2 hv2
      · rintro H2 ⟨s2, zs, h2, d2⟩
        refine ⟨A0, zs, rfl, SqL.of h2, fun t o ht oc od => ?_⟩
        rw [hD]
        have s3 := @same_upd _ t (.frz o (.tup zs)) ht
        have s23 := s2.trans s3
        obtain ⟨g1, g2, g3, g4, g5, g6⟩ := ring_ok R t0 t1 hn hc hm
        refine kk t (turned m turn rs) _ ct1 (by omega) k1 (S.bag.keep s23) (S.sb.trans (SameBut.of s23)) (.tup (.inl (.inr ⟨o, upd_same⟩)) (d2.keep s23)) (.inl ⟨o, _, upd_same, oc, od⟩) turned_len g1 ⟨fun _ => g4, fun z => ⟨g5 z, g4, fun z2 => g6 ?_⟩⟩ g2 g3
        rcases way_three wx with e | e | e
        · exact absurd e z2
        · exact absurd e z
        · exact e
    obtain ⟨tC, pC, qC⟩ : ∃ tC, PSs (cxOf CX0 P w K mg base nLR "_law_ring" (defScope s__law_ring) f cdv A outer s H E).nox ((ifB (nthS (forB (nthS (whB (nthS (defBody s__law_ring) 1)) 2)) 0)).drop 2) tC ∧
        ∀ (D : Ends) (rw_ : Addr) (turn step : Int) (t0 : 0 ≤ turn) (st0 : 0 ≤ step) (rs : List Rg.D) (pl cs low spot : Nat) (sp : Nat → Nat) (x9 : Option V) (H1 : Hp) (ct1 : Int), ct ≤ ct1 → ct1 ≤ ct + 20002 → pl < 10000 → RS K H H1 b c ns ct1 rw_ rs → RInv way m turn rs pl sp → Chain way m rs pl sp cs low → pl < m → n < rs.countP emp → low ≤ spot → spot ≤ pl →
          (∀ (rs' : List Rg.D) (sp' : Nat → Nat) (H2 : Hp) (ct2 : Int), ct1 ≤ ct2 → ct2 ≤ ct1 + 2 → RS K H H2 b c ns ct2 rw_ rs' → RInv way m turn rs' (pl + 1) sp' → Chain way m rs' (pl + 1) sp' cs (if way = "sorted" then spot else low) → n ≤ rs'.countP emp →
            D.nx [some (.ref b), some (.str way), some (.int (m : Nat)), some (.int (n : Nat)), some (.ref rw_), some (.int ((pl + 1 : Nat) : Int)), some (.int turn), some (.int step), some (.int ((if way = "sorted" then spot else low : Nat) : Int)), x9, some (.int (spot : Nat))] H2) →
          tC D [some (.ref b), some (.str way), some (.int (m : Nat)), some (.int (n : Nat)), some (.ref rw_), some (.int (pl : Nat)), some (.int turn), some (.int step), some (.int ((if way = "sorted" then spot else low : Nat) : Int)), x9, some (.int (spot : Nat))] H1 := by
      refine ⟨_, pss_cons (ps_asg (pe_tup (pa_cons (pe_op op_sub (pe_op op_mul (pv 5) pe_int) (pv 2)) (pa_cons (pe_op op_add (pe_op op_add (pv 10) (pv 6)) (pe_op op_mul (pe_op op_mul (pv 2) (pv 7)) (pe_call GD hr (by rfl) gD kD bD .nil pass0 (pa_cons (pv 0) (pa_cons pe_int pa_nil))))) (pa_cons (pe_op op_add (pv 5) pe_int) pa_nil)))) (pg_sub (pv 4) (pv 5) set_list))
        (pss_cons (ps_if (PW.pt (pw_and (pt_cmpR op_eq (pv 1) pe_str (nomark _)) (pw_and1 (pt_cmpR op_eq (pe_call GD hr (by rfl) gD kD bD .nil pass0 (pa_cons (pv 0) (pa_cons pe_int pa_nil))) pe_int (nomark _))))) (pss_one (ps_asg pe_str (pg_sub (pv 4) (pv 5) set_list))) pss_nil)
        (pss_one (ps_set (i := 5) scLR.nd rfl (Or.inl rfl) (pe_op op_add (pv 5) pe_int)))), ?_⟩
      intro D rw_ turn step t0 st0 rs pl cs low spot sp x9 H1 ct1 k0 k1 kp S R C hp hk sp1 sp2 next
      generalize hlow : (if way = "sorted" then spot else low) = low' at *
      refine ⟨_, rfl, _, _, rfl, rfl, .inr ⟨by decide, by decide⟩, _, rfl, _, _, rfl, rfl, _, rfl, _, rfl, _, _, rfl, rfl, _, rfl, _, rfl, _, _, rfl, rfl, .inl ⟨by omega, by omega⟩, _, rfl, b, c, 4, ns, ct1, rfl, S.bag, by omega, by omega, by decide, by decide, hns, fun r3 H2 hr3 hr3' B2 s2 => ?_⟩
      have S2 := S.draw B2 s2
      refine ⟨_, _, rfl, rfl, .inr ⟨by omega, by omega⟩, _, _, rfl, rfl, _, rfl, _, _, rfl, rfl, (by show 3 ≤ sizeLine; decide), fun t ht => ?_⟩
      have S3 := S2.new (o := .tup [V.int ((pl : Nat) * 3 - (m : Nat)), V.int ((spot : Nat) + turn + (m : Nat) * step * r3), V.int ((pl : Nat) + 50)]) ht
      have it : Dp K (upd H2 t (.tup [V.int ((pl : Nat) * 3 - (m : Nat)), V.int ((spot : Nat) + turn + (m : Nat) * step * r3), V.int ((pl : Nat) + 50)])) (.ref t) (itD pl m (spot + turn + m * (step * r3))) := by
        rw [← Int.mul_assoc]
        exact .tup (SqT.of upd_same) (.cons (.int _) (.cons (.int _) (.cons (.int _) .nil)))
      generalize upd H2 t (.tup [V.int ((pl : Nat) * 3 - (m : Nat)), V.int ((spot : Nat) + turn + (m : Nat) * step * r3), V.int ((pl : Nat) + 50)]) = H3 at S3 it ⊢
      obtain ⟨ys, hy, dy⟩ := id S3.hr
      have yl : ys.length = m := by rw [dy.length, R.len]
      refine ⟨_, rfl, _, rfl, rw_, ys, _, pl, rfl, rfl, hy, by rw [yl]; exact ixN_nat hp, ?_⟩
      have hM : 0 ≤ step * r3 := Int.mul_nonneg st0 hr3
      obtain ⟨R4, C4⟩ := R.add C hp sp1 sp2 (M := step * r3) hM
      rw [hlow] at C4
      have ri : rowD (itD pl m (spot + turn + m * (step * r3))) = true := by
        have : (0 : Int) ≤ spot + turn + m * (step * r3) := by
          have := Int.mul_nonneg (show (0 : Int) ≤ m by omega) hM
          omega
        unfold rowD
        rw [show itemD (itD pl m (spot + turn + m * (step * r3))) = true from decide_eq_true this, Bool.or_true]
      have S4 := S3.set hy pl it ri
      have gp : rs[pl]? = some .none := R.up pl (Nat.le_refl _) hp
      have cn : (rs.set pl (itD pl m (spot + turn + m * (step * r3)))).countP emp + 1 = rs.countP emp := by
        have := count_set (d := itD pl m (spot + turn + m * (step * r3))) rfl gp
        rw [if_pos (show emp PyData.none = true from rfl)] at this
        exact this
      generalize upd H3 rw_ (.lst (ys.set pl (.ref t))) = H4 at S4 ⊢
      refine ⟨_, rfl, rfl, _, rfl, ?_⟩
      by_cases hw : way = "stones"
      · refine ifT (decide_eq_true (congrArg V.str hw)) ⟨_, rfl, b, c, 4, ns, _, rfl, S4.bag, by omega, by omega, by decide, by decide, hns, fun r4 H5 hr4 hr4' B5 s5 => ?_⟩
        have S5 := S4.draw B5 s5
        refine ⟨rfl, _, rfl, ?_⟩
        by_cases h0 : r4 = 0
        · refine ifT (decide_eq_true (congrArg V.int h0)) ?_
          obtain ⟨ys5, hy5, dy5⟩ := id S5.hr
          have yl5 : ys5.length = m := by rw [dy5.length, List.length_set, R.len]
          refine ⟨_, rfl, _, rfl, rw_, ys5, _, pl, rfl, rfl, hy5, by rw [yl5]; exact ixN_nat hp, ?_⟩
          have S6 := S5.set hy5 pl (Dp.str "stone") (by decide +kernel)
          subst hw
          have p1 : 1 ≤ pl := by have := C.c1; have := C.cl; have := C.lp; omega
          obtain ⟨R6, C6⟩ := R4.stone C4 hp p1
          have gp6 : (rs.set pl (itD pl m (spot + turn + m * (step * r3))))[pl]? = some (itD pl m (spot + turn + m * (step * r3))) := List.getElem?_set_self (by rw [R.len]; exact hp)
          have cn6 := count_set (d := .str "stone") rfl gp6
          rw [if_neg (show ¬ emp (itD pl m (spot + turn + m * (step * r3))) = true from Bool.false_ne_true), Nat.add_zero] at cn6
          refine ⟨_, rfl, _, _, rfl, rfl, ?_⟩
          have fin := next _ _ _ _ (by omega) (by omega) S6 R6 C6 (by omega)
          exact fin
        · refine ifF (decide_eq_false fun z => h0 (V.int.inj z)) ?_
          refine ⟨_, rfl, _, _, rfl, rfl, ?_⟩
          have fin := next _ _ _ _ (by omega) (by omega) S5 R4 C4 (by omega)
          exact fin
      · refine ifF (decide_eq_false fun z => hw (V.str.inj z)) (iteF ?_)
        refine ⟨_, rfl, _, _, rfl, rfl, ?_⟩
        have fin := next _ _ _ _ (by omega) (by omega) S4 R4 C4 (by omega)
        exact fin
    obtain ⟨tB, pB, qB⟩ : ∃ tB, PSs (cxOf CX0 P w K mg base nLR "_law_ring" (defScope s__law_ring) f cdv A outer s H E).nox (forB (nthS (whB (nthS (defBody s__law_ring) 1)) 2)) tB ∧
        ∀ (D : Ends) (rw_ : Addr) (turn step : Int) (t0 : 0 ≤ turn) (st0 : 0 ≤ step) (rs : List Rg.D) (pl cs low : Nat) (sp : Nat → Nat) (x9 x10 : Option V) (H1 : Hp) (ct1 : Int), ct ≤ ct1 → ct1 ≤ ct + 20000 → pl < 10000 → RS K H H1 b c ns ct1 rw_ rs → RInv way m turn rs pl sp → Chain way m rs pl sp cs low → n ≤ rs.countP emp →
          (∀ (rs' : List Rg.D) (pl' low' : Nat) (sp' : Nat → Nat) (x10' : Option V) (H2 : Hp) (ct2 : Int), ct1 ≤ ct2 → ct2 ≤ ct1 + 4 → pl ≤ pl' → pl' ≤ pl + 1 → RS K H H2 b c ns ct2 rw_ rs' → RInv way m turn rs' pl' sp' → Chain way m rs' pl' sp' cs low' → n ≤ rs'.countP emp →
            D.nx [some (.ref b), some (.str way), some (.int (m : Nat)), some (.int (n : Nat)), some (.ref rw_), some (.int (pl' : Nat)), some (.int turn), some (.int step), some (.int (low' : Nat)), x9, x10'] H2) →
          tB D [some (.ref b), some (.str way), some (.int (m : Nat)), some (.int (n : Nat)), some (.ref rw_), some (.int (pl : Nat)), some (.int turn), some (.int step), some (.int (low : Nat)), x9, x10] H1 := by
      refine ⟨_, pss_one (ps_if (PW.pt (pw_and (pt_cmpR op_lt (pv 5) (pv 2) (nomark _)) (pw_and1 (pt_cmpR op_gt (pe_bm PySem.F.plainAttrs_list PySem.F.slot_list_count PySem.F.type_list_count (mt_lcountN hu) (pv 4) (pa_cons pe_non pa_nil)) (pv 3) (nomark _)))))
        (pss_cons (ps_set (i := 10) scLR.nd rfl (Or.inl rfl) (pe_op op_add (pv 8) (pe_op op_mul (pe_call GD hr (by rfl) gD kD bD .nil pass0 (pa_cons (pv 0) (pa_cons (pe_op op_add (pe_op op_sub (pv 5) (pv 8)) pe_int) pa_nil))) (pe_call GD hr (by rfl) gD kD bD .nil pass0 (pa_cons (pv 0) (pa_cons pe_int pa_nil))))))
        (pss_cons (ps_set (i := 8) scLR.nd rfl (Or.inl rfl) (pe_ifExp (pt_cmpR op_eq (pv 1) pe_str (nomark _)) (pv 10) (pv 8)))
        pC)) pss_nil), ?_⟩
      intro D rw_ turn step t0 st0 rs pl cs low sp x9 x10 H1 ct1 k0 k1 kp S R C hc next
      obtain ⟨ys, hy, dy⟩ := id S.hr
      have stay := next rs pl low sp x10 H1 ct1 (Int.le_refl _) (by omega) (Nat.le_refl _) (by omega) S R C hc
      refine ⟨_, rfl, _, rfl, _, _, rfl, rfl, _, rfl, ?_⟩
      by_cases hp : pl < m
      · refine ifT (decide_eq_true (by omega)) ?_
        refine ⟨_, rfl, .inl ⟨rfl, _, SqL.of hy⟩, rw_, rs, rfl, rfl, .lst (SqL.of hy) dy, plain_rows S.ok, _, rfl, _, _, rfl, rfl, _, rfl, ?_⟩
        by_cases hk : n < rs.countP emp
        · refine ifT (decide_eq_true (by omega)) ?_
          have lp := C.lp
          refine ⟨_, rfl, _, rfl, _, rfl, _, rfl, _, _, rfl, rfl, _, _, rfl, rfl, b, c, _, ns, ct1, rfl, S.bag, by omega, by omega, by omega, Int.lt_of_lt_of_le (show ((pl : Nat) : Int) - (low : Nat) + 1 < 20000 by omega) (by decide), hns, fun r1 H2 hr1 hr1' B2 s2 => ?_⟩
          have S2 := S.draw B2 s2
          refine ⟨_, rfl, b, c, 2, ns, _, rfl, B2, by omega, by omega, by decide, by decide, hns, fun r2 H3 hr2 hr2' B3 s3 => ?_⟩
          have S3 := S2.draw B3 s3
          obtain ⟨spot, es, sp1, sp2⟩ : ∃ spot : Nat, ((low : Nat) : Int) + r1 * r2 = (spot : Nat) ∧ low ≤ spot ∧ spot ≤ pl := by
            rcases (show r2 = 0 ∨ r2 = 1 by omega) with e | e
            · exact ⟨low, by rw [e, Int.mul_zero]; omega, Nat.le_refl _, lp⟩
            · exact ⟨low + r1.toNat, by rw [e, Int.mul_one]; omega, by omega, by omega⟩
          refine ⟨_, _, rfl, rfl, .inr ⟨by omega, by omega⟩, _, _, rfl, rfl, ?_⟩
          show gName 10 (V.int (((low : Nat) : Int) + r1 * r2)) _ _ _
          rw [es]
          refine ⟨_, rfl, rfl, _, rfl, ?_⟩
          have fin := qC D rw_ turn step t0 st0 rs pl cs low spot sp x9 H3 _ (by omega) (by omega) kp S3 R C hp hk sp1 sp2 fun rs' sp' H4 ct4 q1 q2 q3 q4 q5 q6 => next rs' (pl + 1) _ sp' _ H4 ct4 (by omega) (by omega) (by omega) (by omega) q3 q4 q5 q6
          by_cases hw : way = "sorted"
          · rw [if_pos hw] at fin
            exact ifT (decide_eq_true (congrArg V.str hw)) ⟨_, rfl, fin⟩
          · rw [if_neg hw] at fin
            exact ifF (decide_eq_false fun z => hw (V.str.inj z)) ⟨_, rfl, fin⟩
        · exact ifF (decide_eq_false (by omega)) stay
      · exact ifF (decide_eq_false (by omega)) (iteF stay)
    obtain ⟨tW, pW, qW⟩ : ∃ tW, PSs (cxOf CX0 P w K mg base nLR "_law_ring" (defScope s__law_ring) f cdv A outer s H E).nox (whB (nthS (defBody s__law_ring) 1)) tW ∧
        ∀ (D : Ends) (rw_ : Addr) (turn step : Int) (t0 : 0 ≤ turn) (st0 : 0 ≤ step) (rs : List Rg.D) (pl : Nat) (sp : Nat → Nat) (x8 x9 x10 : Option V) (H1 : Hp) (ct1 : Int), ct ≤ ct1 → ct1 ≤ ct + 10000 → pl < m → RS K H H1 b c ns ct1 rw_ rs → RInv way m turn rs pl sp → n ≤ rs.countP emp →
          (∀ (rs' : List Rg.D) (pl' : Nat) (sp' : Nat → Nat) (x8' x9' x10' : Option V) (H2 : Hp) (ct2 : Int), ct1 ≤ ct2 → ct2 ≤ ct1 + 60 → pl < pl' → RS K H H2 b c ns ct2 rw_ rs' → RInv way m turn rs' pl' sp' → n ≤ rs'.countP emp →
            D.nx [some (.ref b), some (.str way), some (.int (m : Nat)), some (.int (n : Nat)), some (.ref rw_), some (.int (pl' : Nat)), some (.int turn), some (.int step), x8', x9', x10'] H2) →
          tW D [some (.ref b), some (.str way), some (.int (m : Nat)), some (.int (n : Nat)), some (.ref rw_), some (.int (pl : Nat)), some (.int turn), some (.int step), x8, x9, x10] H1 := by
      refine ⟨_, pss_cons (ps_set (i := 5) scLR.nd rfl (Or.inl rfl) (pe_op op_add (pv 5) (pe_ix ix_list (pe_lst (pa_cons pe_int (pa_cons pe_int (pa_cons (pe_op op_add pe_int (pe_call GD hr (by rfl) gD kD bD .nil pass0 (pa_cons (pv 0) (pa_cons pe_int pa_nil)))) pa_nil)))) (pe_call GD hr (by rfl) gD kD bD .nil pass0 (pa_cons (pv 0) (pa_cons pe_int pa_nil))) (fun _ _ => rfl))))
        (pss_cons (ps_set (i := 8) scLR.nd rfl (Or.inl rfl) (pv 5))
        (pss_one (ps_for PassesOwn.never rfl (pi_range1 (by rfl) TG.range (pa_cons (pe_ix ix_list (pe_lst (pa_cons pe_int (pa_cons pe_int (pa_cons pe_int (pa_cons pe_int (pa_cons (pe_call GD hr (by rfl) gD kD bD .nil pass0 (pa_cons (pv 0) (pa_cons pe_int pa_nil))) pa_nil)))))) (pe_call GD hr (by rfl) gD kD bD .nil pass0 (pa_cons (pv 0) (pa_cons pe_int pa_nil))) (fun _ _ => rfl)) pa_nil)) (pg_name (i := 9) scLR.nd rfl (Or.inl rfl)) pB))), ?_⟩
      intro D rw_ turn step t0 st0 rs pl sp x8 x9 x10 H1 ct1 k0 k1 hp S R hc next
      refine ⟨_, rfl, _, rfl, b, c, 3, ns, ct1, rfl, S.bag, by omega, by omega, by decide, by decide, hns, fun r1 H2 hr1 hr1' B2 s2 => ?_⟩
      have S2 := S.draw B2 s2
      refine ⟨_, _, rfl, rfl, (by show 3 ≤ sizeLine; decide), fun l1 hl1 => ?_⟩
      have S3 := S2.new (o := .lst [V.int 1, V.int 1, V.int (1 + r1)]) hl1
      refine ⟨_, rfl, b, c, 3, ns, _, rfl, S3.bag, by omega, by omega, by decide, by decide, hns, fun r2 H4 hr2 hr2' B4 s4 => ?_⟩
      have S4 := S3.draw B4 s4
      obtain ⟨kvs, hb3⟩ := S3.bag.dk
      have l14 : H4 l1 = some (.lst [V.int 1, V.int 1, V.int (1 + r1)]) := s4 _ _ (ne_of upd_same hb3 (fun z => nomatch z)) upd_same
      obtain ⟨q, eq, q1⟩ : ∃ q : Nat, atI [V.int 1, V.int 1, V.int (1 + r1)] r2 = some (.int ((q : Nat) : Int)) ∧ 1 ≤ q := by
        rcases (show r2 = 0 ∨ r2 = 1 ∨ r2 = 2 by omega) with e | e | e <;> subst e
        · exact ⟨1, rfl, Nat.le_refl _⟩
        · exact ⟨1, rfl, Nat.le_refl _⟩
        · refine ⟨(1 + r1).toNat, ?_, by omega⟩
          rw [Int.toNat_of_nonneg (by omega)]; rfl
      have q3 : q ≤ 3 := by
        rcases (show r2 = 0 ∨ r2 = 1 ∨ r2 = 2 by omega) with e | e | e <;> subst e
        · have : (1 : Int) = (q : Nat) := V.int.inj (Option.some.inj eq); omega
        · have : (1 : Int) = (q : Nat) := V.int.inj (Option.some.inj eq); omega
        · have : (1 + r1 : Int) = (q : Nat) := V.int.inj (Option.some.inj eq); omega
      refine ⟨l1, _, r2, _, rfl, rfl, SqL.of l14, eq, _, _, rfl, rfl, ?_⟩
      obtain ⟨R5, C5⟩ := R.next (q := pl + q) (by omega)
      refine ⟨_, rfl, ?_⟩
      refine ⟨_, rfl, b, c, 14, ns, _, rfl, S4.bag, by omega, by omega, by decide, by decide, hns, fun r3 H5 hr3 hr3' B5 s5 => ?_⟩
      have S5 := S4.draw B5 s5
      refine ⟨(by show 5 ≤ sizeLine; decide), fun l2 hl2 => ?_⟩
      have S6 := S5.new (o := .lst [V.int 0, V.int 1, V.int 2, V.int 3, V.int r3]) hl2
      refine ⟨_, rfl, b, c, 5, ns, _, rfl, S6.bag, by omega, by omega, by decide, by decide, hns, fun r4 H7 hr4 hr4' B7 s7 => ?_⟩
      have S7 := S6.draw B7 s7
      obtain ⟨kvs6, hb6⟩ := S6.bag.dk
      have l27 : H7 l2 = some (.lst [V.int 0, V.int 1, V.int 2, V.int 3, V.int r3]) := s7 _ _ (ne_of upd_same hb6 (fun z => nomatch z)) upd_same
      obtain ⟨j, ej, j0, j1⟩ : ∃ j : Int, atI [V.int 0, V.int 1, V.int 2, V.int 3, V.int r3] r4 = some (.int j) ∧ 0 ≤ j ∧ j < 14 := by
        rcases (show r4 = 0 ∨ r4 = 1 ∨ r4 = 2 ∨ r4 = 3 ∨ r4 = 4 by omega) with e | e | e | e | e <;> subst e
        · exact ⟨0, rfl, by omega, by omega⟩
        · exact ⟨1, rfl, by omega, by omega⟩
        · exact ⟨2, rfl, by omega, by omega⟩
        · exact ⟨3, rfl, by omega, by omega⟩
        · exact ⟨r3, rfl, hr3, hr3'⟩
      refine ⟨l2, _, r4, _, rfl, rfl, SqL.of l27, ej, _, rfl, by omega, by omega, for_range (n := j.toNat) (fun i σ H' => ∃ (rs' : List Rg.D) (pl' low' : Nat) (sp' : Nat → Nat) (x9' x10' : Option V) (ct' : Int), σ = [some (.ref b), some (.str way), some (.int (m : Nat)), some (.int (n : Nat)), some (.ref rw_), some (.int (pl' : Nat)), some (.int turn), some (.int step), some (.int (low' : Nat)), x9', x10'] ∧
        ct1 ≤ ct' ∧ ct' ≤ ct1 + 4 + 4 * (i : Int) ∧ pl + q ≤ pl' ∧ pl' ≤ pl + q + i ∧ RS K H H' b c ns ct' rw_ rs' ∧ RInv way m turn rs' pl' sp' ∧ Chain way m rs' pl' sp' (pl + q) low' ∧ n ≤ rs'.countP emp) ⟨rs, pl + q, pl + q, sp, x9, x10, _, ?_, by omega, by omega, by omega, by omega, S7, R5, C5, hc⟩ ?_ ?_⟩
      · rfl
      · rintro i σ H8 hi ⟨rs', pl', low', sp', x9', x10', ct', rfl, a1, a2, a3, a4, S8, R8, C8, hc8⟩
        refine qB _ rw_ turn step t0 st0 rs' pl' (pl + q) low' sp' _ x10' H8 ct' (by omega) (by omega) (by omega) S8 R8 C8 hc8 fun rs2 pl2 low2 sp2 x10'' H9 ct2 b1 b2 b3 b4 S9 R9 C9 hc9 => ?_
        exact ⟨rs2, pl2, low2, sp2, _, x10'', ct2, rfl, by omega, by omega, by omega, by omega, S9, R9, C9, hc9⟩
      · rintro σ H8 ⟨rs', pl', low', sp', x9', x10', ct', rfl, a1, a2, a3, a4, S8, R8, C8, hc8⟩
        exact next rs' pl' sp' _ _ _ H8 ct' a1 (by omega) (by omega) S8 R8 hc8
    refine ⟨_, pss_cons (ps_asg (pe_tup (pa_cons (pe_op op_rep (pe_lst (pa_cons pe_non pa_nil)) (pv 2)) (pa_cons pe_int (pa_cons (pe_call GD hr (by rfl) gD kD bD .nil pass0 (pa_cons (pv 0) (pa_cons (pv 2) pa_nil))) (pa_cons (pe_ix ix_list (pe_lst (pa_cons pe_int (pa_cons (pv 2) (pa_cons (pe_op op_pow pe_int pe_int) pa_nil)))) (pe_call GD hr (by rfl) gD kD bD .nil pass0 (pa_cons (pv 0) (pa_cons pe_int pa_nil))) (fun _ _ => rfl)) pa_nil)))))
        (pg_tup rfl (pgs_cons (pg_name (i := 4) scLR.nd rfl (Or.inr rfl)) (pgs_cons (pg_name (i := 5) scLR.nd rfl (Or.inl rfl)) (pgs_cons (pg_name (i := 6) scLR.nd rfl (Or.inr rfl)) (pgs_cons (pg_name (i := 7) scLR.nd rfl (Or.inl rfl)) pgs_nil))))))
      (pss_cons (ps_while PassesOwn.never (pt_cmpR op_lt (pv 5) (pv 2) (nomark _)) pW) pE), ?_⟩
    refine ⟨(by show 1 ≤ sizeLine; decide), fun l0 hl0 => ?_⟩
    have s0 := @same_upd _ l0 (.lst [V.non]) hl0
    have h00 : upd H l0 (.lst [V.non]) l0 = some (.lst [V.non]) := upd_same
    generalize upd H l0 (.lst [V.non]) = H0 at s0 h00 ⊢
    refine ⟨_, rfl, l0, _, _, rfl, rfl, h00, by omega, by omega, by rw [sizeLine_eq]; show 1 * _ ≤ _; rw [Int.toNat_natCast]; omega, fun rw_ hrw => ?_⟩
    have fl : (List.replicate ((m : Nat) : Int).toNat [V.non]).flatten = List.replicate m V.non := by
      rw [Int.toNat_natCast]
      exact List.flatten_replicate_singleton
    rw [fl]
    have nr : H rw_ = none := by
      cases z : H rw_ with
      | none => rfl
      | some o => rw [s0 _ _ z] at hrw; cases hrw
    have dall : ∀ (H' : Hp) (k : Nat), DpAll K H' (List.replicate k V.non) (List.replicate k PyData.none) := fun H' k => by
      induction k with
      | zero => exact .nil
      | succ k ih => exact .cons .non ih
    obtain ⟨at_, dg, fo, gb, gc, _⟩ := id B.ex
    have s1 := s0.trans (@same_upd _ rw_ (.lst (List.replicate m V.non)) hrw)
    have S1 : RS K H (upd H0 rw_ (.lst (List.replicate m V.non))) b c ns ct rw_ (List.replicate m .none) :=
      ⟨B.keep s1, SameBut.of s1, ⟨_, upd_same, dall _ m⟩, nr, List.all_eq_true.mpr fun d hd => by rw [List.eq_of_mem_replicate hd]; rfl, ne_of_none gc nr⟩
    have hmp : 0 < m := by omega
    refine ⟨_, rfl, _, rfl, b, c, _, ns, ct, rfl, S1.bag, by omega, by omega, by omega, Int.lt_of_le_of_lt (show ((m : Nat) : Int) ≤ 60 by omega) (by decide), hns, fun turn H2 t0 t1 B2 s2 => ?_⟩
    have S2 := S1.draw B2 s2
    refine ⟨_, rfl, _, _, rfl, rfl, ⟨by decide, by decide, by decide⟩, (by show 3 ≤ sizeLine; decide), fun l1 hl1 => ?_⟩
    have S3 := S2.new (o := .lst [V.int 1, V.int (m : Nat), V.int (10 ^ (20 : Int).toNat)]) hl1
    refine ⟨_, rfl, b, c, 3, ns, _, rfl, S3.bag, by omega, by omega, by decide, by decide, hns, fun r2 H4 hr2 hr2' B4 s4 => ?_⟩
    have S4 := S3.draw B4 s4
    obtain ⟨kvs, hb3⟩ := S3.bag.dk
    have l14 : H4 l1 = some (.lst [V.int 1, V.int (m : Nat), V.int (10 ^ (20 : Int).toNat)]) := s4 _ _ (ne_of upd_same hb3 (fun z => nomatch z)) upd_same
    obtain ⟨step, es, st0⟩ : ∃ step : Int, atI [V.int 1, V.int (m : Nat), V.int (10 ^ (20 : Int).toNat)] r2 = some (.int step) ∧ 0 ≤ step := by
      rcases (show r2 = 0 ∨ r2 = 1 ∨ r2 = 2 by omega) with e | e | e <;> subst e
      · exact ⟨1, rfl, by omega⟩
      · exact ⟨m, rfl, by omega⟩
      · exact ⟨_, rfl, by decide⟩
    refine ⟨l1, _, r2, _, rfl, rfl, SqL.of l14, es, (by show 4 ≤ sizeLine; decide), fun t ht => ?_⟩
    have S5 := S4.new (o := .tup [V.ref rw_, V.int 0, V.int turn, V.int step]) ht
    have R0 := RInv.start way hmp turn fun i => i
    have c0' : n ≤ (List.replicate m PyData.none).countP emp := by
      rw [List.countP_replicate, if_pos (show emp PyData.none = true from rfl)]
      exact hnm
    refine ⟨t, _, rfl, SqT.of upd_same, rfl, _, _, rfl, _, _, rfl, _, _, rfl, _, _, rfl, rfl, ?_⟩
    generalize upd H4 t (.tup [V.ref rw_, V.int 0, V.int turn, V.int step]) = H5 at S5 ⊢
    refine ⟨fun k σ H' => ∃ (rs : List Rg.D) (pl it : Nat) (sp : Nat → Nat) (x8 x9 x10 : Option V) (ct' : Int), k + it = m ∧ it ≤ pl ∧ ct + 2 ≤ ct' ∧ ct' ≤ ct + 2 + 60 * (it : Int) ∧ σ = [some (.ref b), some (.str way), some (.int (m : Nat)), some (.int (n : Nat)), some (.ref rw_), some (.int (pl : Nat)), some (.int turn), some (.int step), x8, x9, x10] ∧ RS K H H' b c ns ct' rw_ rs ∧ RInv way m turn rs pl sp ∧ n ≤ rs.countP emp,
      ⟨m, List.replicate m .none, 0, 0, fun i => i, none, none, none, _, rfl, Nat.le_refl _, by omega, by omega, ?_, S5, R0, c0'⟩, ?_⟩
    · rfl
    rintro k σ H6 ⟨rs, pl, it, sp, x8, x9, x10, ct', e1, e2, e3, e4, rfl, S6, R6, hc6⟩
    refine ⟨_, rfl, _, rfl, _, _, rfl, rfl, _, rfl, ?_⟩
    by_cases hp : pl < m
    · refine ifT (decide_eq_true (by omega)) ⟨_, fun σ' H' z => z, ?_⟩
      refine qW _ rw_ turn step t0 st0 rs pl sp x8 x9 x10 H6 ct' (by omega) (by omega) hp S6 R6 hc6 fun rs' pl' sp' x8' x9' x10' H7 ct2 b1 b2 b3 S7 R7 hc7 => ?_
      exact ⟨k - 1, by omega, rs', pl', it + 1, sp', x8', x9', x10', ct2, by omega, by omega, by omega, by omega, rfl, S7, R7, hc7⟩
    · refine ifF (decide_eq_false (by omega)) ?_
      exact qE _ rw_ turn rs pl sp _ _ x8 x9 x10 H6 ct' rfl t0 t1 (by omega) (by omega) S6 R6 hc6
end
end K40

namespace K40
open PySem PySem.Spec PyProof.Rows L2 Rg PySem.RingX
open Fm hiding D
/-! ## what is handed -/
def keepD (d : D) : Bool := !emp d && !stoneD d
theorem keep_T {d : D} (h : rowD d = true) : keepD d = isT d := by
  unfold rowD at h
  simp only [Bool.or_eq_true] at h
  rcases h with (h | h) | h
  · rw [emp_none.mp h]; rfl
  · cases d with
    | str x => unfold keepD; rw [h, Bool.not_true, Bool.and_false]; rfl
    | _ => cases h
  · obtain ⟨k, x, m, rfl, _⟩ := item_parts h
    rfl
theorem there_new {ds : List D} (h : ∀ d ∈ ds, isT d = true → keyD d < 1000) {k : Int} (hk : 1000 ≤ k) : there ds k = [] := by
  unfold there
  rw [List.map_eq_nil_iff, List.filter_eq_nil_iff]
  intro d hd z
  have := h d (List.mem_filter.mp hd).1 (List.mem_filter.mp hd).2
  have := of_decide_eq_true z
  omega
theorem there_own {ds : List D} (hr : ringL ds = true) {d : D} (hd : d ∈ ds.filter isT) : (there ds (keyD d)).head? = some (hashD d) := by
  have nd : ((ds.filter isT).map keyD).Nodup := by
    unfold ringL at hr
    obtain ⟨_, hr⟩ := Bool.and_eq_true_iff.mp hr
    exact of_decide_eq_true (Bool.and_eq_true_iff.mp hr).2
  have one : ∀ e ∈ ds.filter isT, keyD e = keyD d → e = d := by
    generalize ds.filter isT = l at nd hd
    clear hr
    induction l with
    | nil => intro e he; cases he
    | cons a r ih =>
      rw [List.map_cons, List.nodup_cons] at nd
      intro e he hk
      rcases List.mem_cons.mp hd with e1 | hd1
      · rcases List.mem_cons.mp he with e2 | he1
        · rw [e1, e2]
        · exact absurd (List.mem_map.mpr ⟨e, he1, by rw [hk, e1]⟩) nd.1
      · rcases List.mem_cons.mp he with e2 | he1
        · exact absurd (List.mem_map.mpr ⟨d, hd1, by rw [← hk, e2]⟩) nd.1
        · exact ih nd.2 hd1 e he1 hk
  unfold there
  cases hl : (ds.filter isT).filter fun e => decide (keyD e = keyD d) with
  | nil =>
    have z : d ∈ (ds.filter isT).filter fun e => decide (keyD e = keyD d) := List.mem_filter.mpr ⟨hd, decide_eq_true (Eq.refl (keyD d))⟩
    rw [hl] at z
    cases z
  | cons a r =>
    have m : a ∈ (ds.filter isT).filter fun e => decide (keyD e = keyD d) := by rw [hl]; exact List.mem_cons_self
    obtain ⟨m1, m2⟩ := List.mem_filter.mp m
    rw [one a m1 (of_decide_eq_true m2)]
    rfl
theorem hand_own {k : Str} {ds : List D} (hr : ringL ds = true) {key h m : Int} (hd : (.tuple [.int key, .int h, .int m] : D) ∈ ds.filter isT) (h0 : 0 ≤ h) (hk : k ≠ "put") (ht : k ≠ "take") (z : Int) : HandB k ds (if putSet k = true then .tuple [.int key, .int h, .int z] else .tuple [.int key, .int h]) = true := by
  have th := there_own hr hd
  have e1 : keyD (.tuple [.int key, .int h, .int m]) = key := rfl
  have e2 : hashD (.tuple [.int key, .int h, .int m]) = h := rfl
  rw [e1, e2] at th
  unfold HandB
  rw [if_neg ht]
  cases hp : putSet k with
  | true =>
    rw [if_pos rfl, if_pos rfl]
    show (decide (0 ≤ h) && ((there ds key).isEmpty || (decide (k ≠ "put") && decide ((there ds key).head? = some h)))) = true
    rw [decide_eq_true h0, decide_eq_true hk, decide_eq_true th, Bool.true_and, Bool.true_and, Bool.or_true]
  | false =>
    rw [if_neg (by decide), if_neg (by decide)]
    show (decide (0 ≤ h) && ((there ds key).isEmpty || (decide (k ≠ "put") && decide ((there ds key).head? = some h)))) = true
    rw [decide_eq_true h0, decide_eq_true hk, decide_eq_true th, Bool.true_and, Bool.true_and, Bool.or_true]
theorem hand_new {k : Str} {ds : List D} (hn : ∀ d ∈ ds, isT d = true → keyD d < 1000) {key h : Int} (hk : 1000 ≤ key) (h0 : 0 ≤ h) (ht : k ≠ "take") (z : Int) : HandB k ds (if putSet k = true then .tuple [.int key, .int h, .int z] else .tuple [.int key, .int h]) = true := by
  unfold HandB
  rw [if_neg ht]
  cases hp : putSet k with
  | true =>
    rw [if_pos rfl, if_pos rfl]
    show (decide (0 ≤ h) && ((there ds key).isEmpty || _)) = true
    rw [decide_eq_true h0, there_new hn hk]; rfl
  | false =>
    rw [if_neg (by decide), if_neg (by decide)]
    show (decide (0 ≤ h) && ((there ds key).isEmpty || _)) = true
    rw [decide_eq_true h0, there_new hn hk]; rfl
section
variable {P : Program} {w : World} {K : PySem.W.Frag} {mg : Str → Option Value} {base : Heap}
theorem lst_but {H H' : Hp} {b c l : Addr} {ns : List Int} {ct : Int} {zs : List V} (B : BagAt H b c ns ct) (s : SameBut b H H') (h : H l = some (.lst zs)) : H' l = some (.lst zs) := by
  obtain ⟨kvs, hb⟩ := B.dk
  exact s _ _ (ne_of h hb (fun z => nomatch z)) h
theorem putSet_two {x : Str} (h : putSet x = true) : x = "put" ∨ x = "set" := by
  unfold putSet inV at h
  simp only [List.any_cons, List.any_nil, Bool.or_false, Bool.or_eq_true] at h
  rcases h with h | h
  · exact .inl (eq_of_beq (show (("put" : Str) == x) = true from h)).symm
  · exact .inr (eq_of_beq (show (("set" : Str) == x) = true from h)).symm
theorem eqv_nil {l : List D} : PyData.eqv (.list l) (.list []) = l.isEmpty := by
  cases l <;> simp [PyData.eqv, PyData.eqvAll]
theorem ints_shape (l : List Int) : SeqAt.shaped (.list (l.map PyData.int)) = true := by
  have h : PyData.canLayAll0 (l.map PyData.int) = true ∧ PyData.depthAll (l.map PyData.int) = 0 := by
    induction l with
    | nil => exact ⟨rfl, rfl⟩
    | cons a r ih =>
      rw [List.map_cons]
      simp only [PyData.canLayAll0, PyData.depthAll, PyData.canLay0, PyData.depth, ih.1, ih.2]
      exact ⟨rfl, rfl⟩
  unfold SeqAt.shaped
  simp only [PyData.canLay0, PyData.depth, h.1, h.2, Bool.true_and]
  exact decide_eq_true (by omega)
theorem dp_ints {K : PySem.W.Frag} {H : Hp} : ∀ l : List Int, DpAll K H (l.map V.int) (l.map PyData.int)
  | [] => .nil
  | _ :: r => .cons (.int _) (dp_ints r)
/-- a row among the items -/
theorem eqv_items {ds : List D} (hr : ds.all rowD = true) {d : D} (hd : d ∈ ds) : ((ds.filter isT).any fun z => PyData.eqv z d) = isT d := by
  have rd := List.all_eq_true.mp hr
  cases ht : isT d with
  | true =>
    obtain ⟨k, x, m, rfl, _⟩ := item_parts (row_item (rd d hd) ht)
    refine List.any_eq_true.mpr ⟨_, List.mem_filter.mpr ⟨hd, ht⟩, ?_⟩
    simp [PyData.eqv, PyData.eqvAll]
  | false =>
    refine List.any_eq_false.mpr fun z hz => ?_
    obtain ⟨k, x, m, rfl, _⟩ := item_parts (row_item (rd z (List.mem_filter.mp hz).1) (List.mem_filter.mp hz).2)
    cases d <;> first | (cases ht; done) | simp [PyData.eqv]
def spThing (K : PySem.W.Frag) : Sp := fun vs H Q _ => ∃ (b c : Addr) (ns : List Int) (ct : Int) (k : Str) (a : Addr) (ds : List D), vs = [.ref b, .str k, .ref a] ∧ BagAt H b c ns ct ∧ 0 ≤ ct ∧ ct < 500000 ∧ ns.length < 1000 ∧ Dp K H (.ref a) (.tuple ds) ∧ ringL ds = true ∧ ds.length ≤ 60 ∧ (∀ d ∈ ds, isT d = true → keyD d < 1000) ∧
  ∀ (u : V) (e : D) (H' : Hp) (ct' : Int), 0 ≤ ct' → ct' ≤ ct + 10 → BagAt H' b c ns ct' → SameBut b H H' → Dp K H' u e → ((u = .non ∧ e = .none) ∨ HandB k ds e = true) → Q u H'
def nTh : List Str := ["bag", "kind", "ring", "items", "row", "places", "k", "key", "hashed", "mark"]
theorem scTh : FnScope nTh ["bag", "kind", "ring"] (defScope s__law_thing) := ⟨rfl, rfl, rfl, by decide +kernel, rfl, by decide +kernel, by decide +kernel⟩
theorem ok_thing {f fD : Addr} {fd dD : FuncData} (F : Fun K "_law_thing" "_law_thing" s__law_thing f fd) (TG : GT mg) (GD : FnOk P w K mg base CX0 1 fD dD ["bag", "limit"] spDraw) (gD : mg "_law_draw" = some (.ref fD)) (kD : PySem.W.keepIn K (.ref fD) = true) (bD : L2.Binds K dD ["bag", "limit"] []) :
    FnOk P w K mg base CX0 2 f fd ["bag", "kind", "ring"] (spThing K) := by
  refine F.ok scTh (fun vs H Q E h => ?_) (fun cdv A outer s H vs Q E hr h => ?_)
  · obtain ⟨b, c, ns, ct, k, a, ds, rfl, _⟩ := h
    rfl
  · obtain ⟨b, c, ns, ct, k, a, ds, rfl, B, c0, c1, hns, da, hring, hlen, hkey, kk⟩ := h
    have hu := hu_of hr
    have hu64 := Room.units hr
    have hu65 : (A.deeper (envOfC "_law_thing" (defScope s__law_thing) s.heap.objs.size f cdv)).units + 65 < cLine := by have := hr.un; omega
    obtain ⟨tU, pU, qU⟩ : ∃ tU, PSs (cxOf CX0 P w K mg base nTh "_law_thing" (defScope s__law_thing) f cdv A outer s H E).nox ((defBody s__law_thing).drop 5) tU ∧
        ∀ (D : Ends) (x3 x4 x5 x6 x7 x9 : Option V) (h : Int) (H1 : Hp) (ct1 : Int), D.rt = Q → SameBut b H H1 → BagAt H1 b c ns ct1 → ct ≤ ct1 → ct1 ≤ ct + 8 → 0 ≤ h → k ≠ "take" → tU D [some (.ref b), some (.str k), some (.ref a), x3, x4, x5, x6, x7, some (.int h), x9] H1 := by
      refine ⟨_, pss_one (ps_ret (pe_ifExp (pt_cmpR op_in_seq (pv 1) (pe_lst (pa_cons pe_str (pa_cons pe_str pa_nil))) (by rfl)) (pe_tup (pa_cons (pe_op op_pow pe_int pe_int) (pa_cons (pv 8) (pa_cons pe_int pa_nil)))) (pe_tup (pa_cons (pe_op op_pow pe_int pe_int) (pa_cons (pv 8) pa_nil))))), ?_⟩
      intro D x3 x4 x5 x6 x7 x9 h H1 ct1 hD s1 B1 k0 k1 h0 ck
      refine ⟨_, rfl, (by show 2 ≤ sizeLine; decide), fun l hl => ?_⟩
      have s2 := @same_upd _ l (.lst [V.str "put", V.str "set"]) hl
      refine ⟨l, _, rfl, .inl (SqL.of upd_same), rfl, by kernel_rfl, _, rfl, ?_⟩
      generalize upd H1 l (.lst [V.str "put", V.str "set"]) = H2 at s2 ⊢
      show if putSet k = true then _ else _
      have hn := hand_new (k := k) (ds := ds) hkey (key := 9 ^ (9 : Int).toNat) (h := h) (by decide) h0 ck 8
      have B2 := B1.keep s2
      have s12 := s1.trans (SameBut.of s2)
      cases hp : putSet k with
      | true =>
        rw [hp, if_pos rfl] at hn
        refine iteT ⟨_, _, rfl, rfl, ⟨by decide, by decide, by decide⟩, _, rfl, (by show 3 ≤ sizeLine; decide), fun t ht => ?_⟩
        have s3 := @same_upd _ t (.tup [V.int (9 ^ (9 : Int).toNat), V.int h, V.int 8]) ht
        rw [hD]
        exact kk _ _ _ ct1 (by omega) (by omega) (B2.keep s3) (s12.trans (SameBut.of s3)) (.tup (SqT.of upd_same) (.cons (.int _) (.cons (.int _) (.cons (.int _) .nil)))) (.inr hn)
      | false =>
        rw [hp, if_neg (by decide)] at hn
        refine iteF ⟨_, _, rfl, rfl, ⟨by decide, by decide, by decide⟩, _, rfl, (by show 2 ≤ sizeLine; decide), fun t ht => ?_⟩
        have s3 := @same_upd _ t (.tup [V.int (9 ^ (9 : Int).toNat), V.int h]) ht
        rw [hD]
        exact kk _ _ _ ct1 (by omega) (by omega) (B2.keep s3) (s12.trans (SameBut.of s3)) (.tup (SqT.of upd_same) (.cons (.int _) (.cons (.int _) .nil))) (.inr hn)
    have its : ∀ d ∈ ds.filter isT, itemD d = true := fun d hd => row_item (List.all_eq_true.mp (ring_rows hring) _ (List.mem_filter.mp hd).1) (List.mem_filter.mp hd).2
    have ton : tOnlyAll (ds.filter isT) = true := tOnlyAll_iff.mpr fun d hd => tOnly_row (by unfold rowD; rw [its d hd, Bool.or_true])
    have toR : tOnly (.tuple ds) = true := tOnlyAll_iff.mpr fun d hd => tOnly_row (List.all_eq_true.mp (ring_rows hring) d hd)
    obtain ⟨tS, pS, qS⟩ : ∃ tS, PSs (cxOf CX0 P w K mg base nTh "_law_thing" (defScope s__law_thing) f cdv A outer s H E).nox ((defBody s__law_thing).drop 3) tS ∧
        ∀ (D : Ends) (A0 : Addr) (ys : List V) (x4 x5 x6 x7 x8 x9 : Option V) (H1 : Hp) (ct1 : Int), D.rt = Q → SameBut b H H1 → BagAt H1 b c ns ct1 → ct ≤ ct1 → ct1 ≤ ct + 2 → H1 A0 = some (.lst ys) → DpAll K H1 ys (ds.filter isT) → k ≠ "take" → tS D [some (.ref b), some (.str k), some (.ref a), some (.ref A0), x4, x5, x6, x7, x8, x9] H1 := by
      refine ⟨_, pss_cons (ps_set (i := 8) scTh.nd rfl (Or.inl rfl) (pe_op op_add (pe_call GD hr (by rfl) gD kD bD .nil pass0 (pa_cons (pv 0) (pa_cons (pe_callB call_len_seq (by rfl) TG.len PySem.boot_len (pa_cons (pv 2) pa_nil)) pa_nil))) (pe_op op_mul (pe_callB call_len_seq (by rfl) TG.len PySem.boot_len (pa_cons (pv 2) pa_nil)) (pe_call GD hr (by rfl) gD kD bD .nil pass0 (pa_cons (pv 0) (pa_cons pe_int pa_nil))))))
        (pss_cons (ps_if (PW.pt (pw_and (pt_cmpR (op_neD hu64) (pv 3) (pe_lst pa_nil) (nomark _)) (pw_and1 (pt_cmpR op_eq (pe_call GD hr (by rfl) gD kD bD .nil pass0 (pa_cons (pv 0) (pa_cons pe_int pa_nil))) pe_int (nomark _)))))
          (pss_one (ps_set (i := 8) scTh.nd rfl (Or.inl rfl) (pe_ix ix_tup (pe_ix ix_list (pv 3) (pe_call GD hr (by rfl) gD kD bD .nil pass0 (pa_cons (pv 0) (pa_cons (pe_callB call_len_seq (by rfl) TG.len PySem.boot_len (pa_cons (pv 3) pa_nil)) pa_nil))) (fun _ _ => rfl)) pe_int (fun _ _ => rfl)))) pss_nil) pU), ?_⟩
      intro D A0 ys x4 x5 x6 x7 x8 x9 H1 ct1 hD s1 B1 k0 k1 hA dA ck
      obtain ⟨a', xs, ea, sq, dp⟩ := dp_tup (da.keepT (ext_but B s1) toR)
      cases ea
      have xl := dp.length
      have yl := dA.length
      have fl := List.length_filter_le isT ds
      have hpos := (ring_open hring).2
      have ish := items_shape its
      refine ⟨_, rfl, _, rfl, a, xs, rfl, .inr sq, b, c, _, ns, ct1, rfl, B1, by omega, by omega, by omega, Int.lt_of_le_of_lt (show ((xs.length : Nat) : Int) ≤ 60 by omega) (by decide), hns, fun r1 H2 hr1 hr1' B2 s2 => ?_⟩
      have e2 := ext_but B1 s2
      refine ⟨_, rfl, a, xs, rfl, .inr (e2.sqT sq), _, rfl, b, c, 3, ns, _, rfl, B2, by omega, by omega, by decide, by decide, hns, fun r2 H3 hr2 hr2' B3 s3 => ?_⟩
      have e3 := ext_but B2 s3
      have h0 : 0 ≤ r1 + ((xs.length : Nat) : Int) * r2 := by
        have := Int.mul_nonneg (show (0 : Int) ≤ (xs.length : Nat) by omega) hr2
        omega
      refine ⟨_, _, rfl, rfl, .inl ⟨by omega, by omega⟩, _, _, rfl, rfl, ?_⟩
      have hA3 := lst_but B2 s3 (lst_but B1 s2 hA)
      have dA3 := DpAll.keepT e3 (DpAll.keepT e2 dA ton) ton
      refine ⟨_, rfl, (by show 0 ≤ sizeLine; decide), fun l hl => ?_⟩
      have s4 := @same_upd _ l (.lst []) hl
      refine ⟨.list (ds.filter isT), .list [], .lst (SqL.of (s4 _ _ hA3)) (dA3.keep s4), .lst (SqL.of upd_same) .nil, ish, rfl, _, rfl, ?_⟩
      rw [eqv_nil]
      generalize upd H3 l (.lst []) = H4 at s4 ⊢
      have B4 := B3.keep s4
      have sb4 := ((s1.trans s2).trans s3).trans (SameBut.of s4)
      have hA4 := s4 _ _ hA3
      have dA4 := dA3.keep s4
      cases hi : (ds.filter isT).isEmpty with
      | true => exact iteF (iteF (qU _ _ _ _ _ _ _ (r1 + ((xs.length : Nat) : Int) * r2) H4 _ hD sb4 B4 (by omega) (by omega) h0 ck))
      | false =>
        have ipos : 0 < (ds.filter isT).length := by
          cases z : ds.filter isT with
          | nil => rw [z] at hi; cases hi
          | cons _ _ => simp
        refine iteT ⟨_, rfl, b, c, 2, ns, _, rfl, B4, by omega, by omega, by decide, by decide, hns, fun r3 H5 hr3 hr3' B5 s5 => ⟨rfl, _, rfl, ?_⟩⟩
        have hA5 := lst_but B4 s5 hA4
        have dA5 := DpAll.keepT (ext_but B4 s5) dA4 ton
        refine ite2 (fun _ => ?_) (fun _ => qU _ _ _ _ _ _ _ (r1 + ((xs.length : Nat) : Int) * r2) H5 _ hD (sb4.trans s5) B5 (by omega) (by omega) h0 ck)
        refine ⟨_, rfl, _, rfl, _, rfl, A0, ys, rfl, .inl (SqL.of hA5), b, c, _, ns, _, rfl, B5, by omega, by omega, by omega, Int.lt_of_le_of_lt (show ((ys.length : Nat) : Int) ≤ 60 by omega) (by decide), hns, fun r4 H6 hr4 hr4' B6 s6 => ?_⟩
        have hA6 := lst_but B5 s6 hA5
        have dA6 := DpAll.keepT (ext_but B5 s6) dA5 ton
        have hm := List.getElem?_eq_getElem (l := ds.filter isT) (i := r4.toNat) (by omega)
        obtain ⟨v, hv1, hv2⟩ := dA6.get hm
        obtain ⟨k', x', m', em, hx'⟩ := item_parts (its _ (List.mem_of_getElem? hm))
        rw [em] at hv2
        obtain ⟨a2, rfl, q2⟩ := dp_item hv2
        have hv0 : atI ys r4 = some (.ref a2) := by
          have := atI_nat hv1
          rw [Int.toNat_of_nonneg hr4] at this
          exact this
        refine ⟨A0, ys, r4, .ref a2, rfl, rfl, SqL.of hA6, hv0, a2, _, 1, .int x', rfl, rfl, q2, rfl, ?_⟩
        exact qU _ _ _ _ _ _ _ x' H6 _ hD ((sb4.trans s5).trans s6) B6 (by omega) (by omega) hx' ck
    obtain ⟨tR, pR, qR⟩ : ∃ tR, PSs (cxOf CX0 P w K mg base nTh "_law_thing" (defScope s__law_thing) f cdv A outer s H E).nox ((defBody s__law_thing).drop 1) tR ∧
        ∀ (D : Ends) (A0 : Addr) (ys : List V) (H1 : Hp), D.rt = Q → Same H H1 → H1 A0 = some (.lst ys) → DpAll K H1 ys (ds.filter isT) → tR D [some (.ref b), some (.str k), some (.ref a), some (.ref A0), none, none, none, none, none, none] H1 := by
      refine ⟨_, pss_cons (ps_if (pt_cmpR op_eq (pv 1) pe_str (nomark _))
          (pss_cons (ps_setLc (i := 5) (own := [("k", 6)]) (g := gName 6) rfl scTh.nd rfl rfl (by rfl) (pi_range1 (by rfl) TG.range (pa_cons (pe_callB call_len_seq (by rfl) TG.len PySem.boot_len (pa_cons (pv 2) pa_nil)) pa_nil)) (blkOk_by (own := [("k", 6)]) (N := nTh) (sc := defScope s__law_thing) (by decide +kernel))
            (fun _ _ _ _ _ => pg_name (i := 6) scTh.nd rfl (Or.inl rfl)) (fun _ _ _ _ _ => pts_one (pt_cmpR (show OpR _ _ (rInD K) from op_inD hu65) (pe_ix (show IxR _ (rIxT K) from ix_tup) (pv 2) (pv 6) (fun _ _ => rfl)) (pv 3) (by rfl))) (fun _ _ _ _ _ => pv 6))
          (pss_one (ps_ret (pe_ifExp (pt_cmpR (op_neD hu64) (pv 5) (pe_lst pa_nil) (nomark _)) (pe_ix ix_list (pv 5) (pe_call GD hr (by rfl) gD kD bD .nil pass0 (pa_cons (pv 0) (pa_cons (pe_callB call_len_seq (by rfl) TG.len PySem.boot_len (pa_cons (pv 5) pa_nil)) pa_nil))) (fun _ _ => rfl)) pe_non)))) pss_nil)
        (pss_cons (ps_if (PW.pt (pw_and (pt_cmpR op_ne (pv 1) pe_str (nomark _)) (pw_and (pt_cmpR (op_neD hu64) (pv 3) (pe_lst pa_nil) (nomark _)) (pw_and1 (pt_cmpR op_gt (pe_call GD hr (by rfl) gD kD bD .nil pass0 (pa_cons (pv 0) (pa_cons pe_int pa_nil))) pe_int (nomark _))))))
          (pss_cons (ps_asg (pe_ix ix_list (pv 3) (pe_call GD hr (by rfl) gD kD bD .nil pass0 (pa_cons (pv 0) (pa_cons (pe_callB call_len_seq (by rfl) TG.len PySem.boot_len (pa_cons (pv 3) pa_nil)) pa_nil))) (fun _ _ => rfl)) (pg_tup rfl (pgs_cons (pg_name (i := 7) scTh.nd rfl (Or.inl rfl)) (pgs_cons (pg_name (i := 8) scTh.nd rfl (Or.inl rfl)) (pgs_cons (pg_name (i := 9) scTh.nd rfl (Or.inl rfl)) pgs_nil)))))
          (pss_one (ps_ret (pe_ifExp (pt_cmpR op_eq (pv 1) pe_str (nomark _)) (pe_tup (pa_cons (pv 7) (pa_cons (pv 8) (pa_cons pe_int pa_nil)))) (pe_tup (pa_cons (pv 7) (pa_cons (pv 8) pa_nil))))))) pss_nil)
        pS), ?_⟩
      intro D A0 ys H1 hD s1 hA dA
      obtain ⟨a', xs, ea, sq, dp⟩ := dp_tup da
      cases ea
      have xl := dp.length
      have yl := dA.length
      have fl := List.length_filter_le isT ds
      have rowsOk := ring_rows hring
      have its : ∀ d ∈ ds.filter isT, itemD d = true := fun d hd => row_item (List.all_eq_true.mp rowsOk _ (List.mem_filter.mp hd).1) (List.mem_filter.mp hd).2
      have ish := items_shape its
      have B1 := B.keep s1
      refine ⟨_, rfl, rfl, _, rfl, ?_⟩
      by_cases ck : k = "take"
      · refine ifT (decide_eq_true (congrArg V.str ck)) ?_
        refine ⟨_, rfl, a, xs, rfl, .inr (s1.sqT sq), _, rfl, by omega, by omega, fun A1 hA1 => lc_range (n := xs.length) (fun i H' => Same H1 H' ∧ ∃ js : List Int, H' A1 = some (.lst (js.map V.int)) ∧ js.length ≤ i ∧ ∀ j ∈ js, 0 ≤ j ∧ j < ds.length ∧ isT (row ds j) = true) ⟨same_upd hA1, [], upd_same, Nat.le_refl _, fun j hj => nomatch hj⟩ ?_ ?_⟩
        · rintro i H2 hi ⟨s2, js, h2, l2, j2⟩
          have s12 := s1.trans s2
          obtain ⟨v, hv1, hv2⟩ := dp.get (row_get? (ds := ds) (i := i) (by omega))
          have dm : row ds (i : Int) ∈ ds := List.mem_of_getElem? (row_get? (by omega))
          have e0 : (0 : Int) + (i : Int) = i := by omega
          refine ⟨rfl, _, rfl, _, rfl, a, xs, _, v, rfl, rfl, s12.sqT sq, by rw [e0]; exact atI_nat hv1, _, rfl, row ds (i : Int), ds.filter isT, hv2.keep s12, .lst (SqL.of (s2 _ _ hA)) (dA.keep s2), ?_, ish, _, rfl, ?_⟩
          · obtain ⟨h1, h2⟩ := row_shape (List.all_eq_true.mp rowsOk _ dm)
            unfold SeqAt.shaped
            rw [h1, Bool.true_and]
            exact decide_eq_true (by omega)
          rw [eqv_items rowsOk dm]
          cases ht : isT (row ds (i : Int)) with
          | false => exact iteF ⟨s2, js, h2, by omega, j2⟩
          | true =>
            refine iteT ⟨_, rfl, _, h2, by rw [List.length_map, sizeLine_eq]; omega, fun y o hy => ?_, js ++ [(i : Int)], ?_, by rw [List.length_append]; show _ + 1 ≤ _; omega, fun j hj => ?_⟩
            · rw [upd_ne (ne_of_none hy hA1)]; exact s2 y o hy
            · rw [upd_same, List.map_append, e0]; rfl
            · rcases List.mem_append.mp hj with hj | hj
              · exact j2 j hj
              · rw [List.mem_singleton.mp hj]
                exact ⟨by omega, by omega, ht⟩
        · rintro H2 ⟨s2, js, h2, l2, j2⟩
          have s12 := s1.trans s2
          refine ⟨_, rfl, (by show 0 ≤ sizeLine; decide), fun l hl => ?_⟩
          have s3 := @same_upd _ l (.lst []) hl
          have h3 := s3 _ _ h2
          refine ⟨.list (js.map PyData.int), .list [], .lst (SqL.of h3) (dp_ints js), .lst (SqL.of upd_same) .nil, ints_shape js, rfl, _, rfl, ?_⟩
          rw [eqv_nil]
          generalize upd H2 l (.lst []) = H3 at s3 h3 ⊢
          have s123 := s12.trans s3
          have B3 := B.keep s123
          cases js with
          | nil =>
            refine iteF ?_
            rw [hD]
            exact kk .non .none H3 ct (by omega) (by omega) B3 (SameBut.of s123) .non (.inl ⟨rfl, rfl⟩)
          | cons j0 jr =>
            refine iteT ⟨_, rfl, _, rfl, _, rfl, A1, _, rfl, .inl (SqL.of h3), b, c, _, ns, ct, rfl, B3, by omega, by omega, by rw [List.length_map, List.length_cons]; omega, ?_, hns, fun r H4 hr1 hr2 B4 s4 => ?_⟩
            · rw [List.length_map]
              exact Int.lt_of_le_of_lt (show (((j0 :: jr).length : Nat) : Int) ≤ 60 by omega) (by decide)
            · rw [List.length_map] at hr2
              have h4 := lst_but B3 s4 h3
              have hm := List.getElem?_eq_getElem (l := j0 :: jr) (i := r.toNat) (by omega)
              obtain ⟨m1, m2, m3⟩ := j2 _ (List.mem_of_getElem? hm)
              refine ⟨A1, _, r, .int ((j0 :: jr)[r.toNat]), rfl, rfl, SqL.of h4, ?_, ?_⟩
              · have := atI_nat (xs := (j0 :: jr).map V.int) (j := r.toNat) (v := .int ((j0 :: jr)[r.toNat])) (by rw [List.getElem?_map, hm]; rfl)
                rw [Int.toNat_of_nonneg hr1] at this
                exact this
              · rw [hD]
                refine kk _ (.int ((j0 :: jr)[r.toNat])) H4 _ (by omega) (by omega) B4 ((SameBut.of s123).trans s4) (.int _) (.inr ?_)
                unfold HandB
                rw [if_pos ck]
                show (decide (0 ≤ _) && (decide (_ < _) && isT _)) = true
                rw [decide_eq_true m1, decide_eq_true m2, m3]; rfl
      · refine ifF (decide_eq_false fun z => ck (V.str.inj z)) ?_
        refine ⟨_, rfl, rfl, _, rfl, ?_⟩
        by_cases cp : k = "put"
        · exact ifF (by rw [decide_eq_true (congrArg V.str cp)]; rfl) (iteF (qS _ A0 ys _ _ _ _ _ _ H1 ct hD (SameBut.of s1) B1 (by omega) (by omega) hA dA ck))
        · refine ifT (by rw [decide_eq_false fun z => cp (V.str.inj z)]; rfl) ?_
          refine ⟨_, rfl, (by show 0 ≤ sizeLine; decide), fun l hl => ?_⟩
          have s2 := @same_upd _ l (.lst []) hl
          refine ⟨.list (ds.filter isT), .list [], .lst (SqL.of (s2 _ _ hA)) (dA.keep s2), .lst (SqL.of upd_same) .nil, ish, rfl, _, rfl, ?_⟩
          rw [eqv_nil]
          generalize upd H1 l (.lst []) = H2 at s2 ⊢
          have B2 := B1.keep s2
          have s12 := s1.trans s2
          have hA2 := s2 _ _ hA
          have dA2 := dA.keep s2
          cases hi : (ds.filter isT).isEmpty with
          | true => exact iteF (iteF (qS _ A0 ys _ _ _ _ _ _ H2 ct hD (SameBut.of s12) B2 (by omega) (by omega) hA2 dA2 ck))
          | false =>
            have ipos : 0 < (ds.filter isT).length := by
              cases z : ds.filter isT with
              | nil => rw [z] at hi; cases hi
              | cons _ _ => simp
            refine iteT ⟨_, rfl, b, c, 3, ns, _, rfl, B2, by omega, by omega, by decide, by decide, hns, fun r3 H5 hr3 hr3' B5 s5 => ⟨_, _, rfl, rfl, _, rfl, ?_⟩⟩
            have hA5 := lst_but B2 s5 hA2
            have dA5 := DpAll.keepT (ext_but B2 s5) dA2 ton
            have sb5 := (SameBut.of s12).trans s5
            refine ite2 (fun _ => ?_) (fun _ => qS _ A0 ys _ _ _ _ _ _ H5 _ hD sb5 B5 (by omega) (by omega) hA5 dA5 ck)
            refine ⟨_, rfl, _, rfl, _, rfl, A0, ys, rfl, .inl (SqL.of hA5), b, c, _, ns, _, rfl, B5, by omega, by omega, by omega, Int.lt_of_le_of_lt (show ((ys.length : Nat) : Int) ≤ 60 by omega) (by decide), hns, fun r4 H6 hr4 hr4' B6 s6 => ?_⟩
            have hA6 := lst_but B5 s6 hA5
            have dA6 := DpAll.keepT (ext_but B5 s6) dA5 ton
            have hm := List.getElem?_eq_getElem (l := ds.filter isT) (i := r4.toNat) (by omega)
            obtain ⟨v, hv1, hv2⟩ := dA6.get hm
            have mm := List.mem_of_getElem? hm
            obtain ⟨k', x', m', em, hx'⟩ := item_parts (its _ mm)
            rw [em] at hv2 mm
            obtain ⟨a2, rfl, q2⟩ := dp_item hv2
            have hv0 : atI ys r4 = some (.ref a2) := by
              have := atI_nat hv1
              rw [Int.toNat_of_nonneg hr4] at this
              exact this
            have ho := hand_own (k := k) hring mm hx' cp ck 7
            refine ⟨A0, ys, r4, .ref a2, rfl, rfl, SqL.of hA6, hv0, a2, _, rfl, q2, rfl, _, _, rfl, _, _, rfl, _, _, rfl, rfl, ?_⟩
            refine ⟨_, rfl, rfl, _, rfl, ?_⟩
            by_cases cs : k = "set"
            · rw [if_pos (by rw [cs]; decide +kernel)] at ho
              refine ifT (decide_eq_true (congrArg V.str cs)) ⟨_, rfl, _, rfl, (by show 3 ≤ sizeLine; decide), fun t ht => ?_⟩
              have s7 := @same_upd _ t (.tup [V.int k', V.int x', V.int 7]) ht
              rw [hD]
              exact kk _ _ _ _ (by omega) (by omega) (B6.keep s7) ((sb5.trans s6).trans (SameBut.of s7)) (.tup (SqT.of upd_same) (.cons (.int _) (.cons (.int _) (.cons (.int _) .nil)))) (.inr ho)
            · have np : putSet k = false := by
                cases z : putSet k with
                | false => rfl
                | true => exact ((putSet_two z).elim cp cs).elim
              rw [if_neg (by rw [np]; decide)] at ho
              refine ifF (decide_eq_false fun z => cs (V.str.inj z)) ⟨_, rfl, _, rfl, (by show 2 ≤ sizeLine; decide), fun t ht => ?_⟩
              have s7 := @same_upd _ t (.tup [V.int k', V.int x']) ht
              rw [hD]
              exact kk _ _ _ _ (by omega) (by omega) (B6.keep s7) ((sb5.trans s6).trans (SameBut.of s7)) (.tup (SqT.of upd_same) (.cons (.int _) (.cons (.int _) .nil))) (.inr ho)
    refine ⟨_, pss_cons (ps_set (i := 3) scTh.nd rfl (Or.inr rfl) (pe_lc (own := [("row", 4)]) (g := gName 4) rfl scTh.nd (pi_tup (pv 2)) (blkOk_by (own := [("row", 4)]) (N := nTh) (sc := defScope s__law_thing) (by decide +kernel))
          (fun _ _ _ _ _ => pg_name (i := 4) scTh.nd rfl (Or.inl rfl)) (fun _ _ _ _ _ => pts_one (PW.pt (pw_and (pt_cmpR op_notN (pv 4) pe_non (nomark _)) (pw_and1 (pt_cmpR (show OpR _ _ (rNeD K) from op_neD hu64) (pv 4) pe_str (nomark _)))))) (fun _ _ _ _ _ => pv 4)))
      pR, ?_⟩
    obtain ⟨a', xs, ea, sq, dp⟩ := dp_tup da
    cases ea
    refine ⟨_, rfl, a, rfl, ⟨_, sq⟩, fun A0 hA0 => lc_tup (K := K) (a := a) (xs := xs) (fun i H' => Same H H' ∧ ∃ ys, H' A0 = some (.lst ys) ∧ DpAll K H ys ((ds.take i).filter isT)) ⟨same_upd hA0, [], upd_same, .nil⟩ (fun i H' _ h => h.1.sqT sq) ?_ ?_⟩
    · rintro i x H1 hx ⟨s1, ys, h1, d1⟩
      obtain ⟨d, hd, dx⟩ := dp_at dp hx
      have dm := List.mem_of_getElem? hd
      have rd := List.all_eq_true.mp (ring_rows hring) d dm
      have il : i < ds.length := (List.getElem?_eq_some_iff.mp hd).1
      have tk : (ds.take (i + 1)).filter isT = (ds.take i).filter isT ++ (if isT d = true then [d] else []) := by
        rw [take_more hd, List.filter_append, List.filter_cons, List.filter_nil]
      have sh : SeqAt.shaped d = true := by
        obtain ⟨g1, g2⟩ := row_shape rd
        unfold SeqAt.shaped
        rw [g1, Bool.true_and]
        exact decide_eq_true (by omega)
      refine ⟨rfl, _, rfl, rfl, _, rfl, ?_⟩
      rw [dp_emp dx]
      have kt := keep_T rd
      unfold keepD at kt
      cases he : emp d with
      | true =>
        rw [he, Bool.not_true, Bool.false_and] at kt
        rw [← kt, if_neg (by decide), List.append_nil] at tk
        exact iteF (iteF ⟨s1, ys, h1, by rw [tk]; exact d1⟩)
      | false =>
        rw [he] at kt
        refine iteT ⟨_, rfl, d, .str "stone", dx.keep s1, .str "stone", sh, by decide +kernel, _, rfl, ?_⟩
        rw [eqv_stone]
        cases hs : stoneD d with
        | true =>
          rw [hs] at kt
          rw [← kt, if_neg (by decide), List.append_nil] at tk
          exact iteF ⟨s1, ys, h1, by rw [tk]; exact d1⟩
        | false =>
          rw [hs] at kt
          rw [← kt, if_pos (by decide)] at tk
          have yl := d1.length
          have l1 := List.length_filter_le isT (ds.take i)
          rw [List.length_take] at l1
          refine iteT ⟨_, rfl, _, h1, by rw [sizeLine_eq]; omega, fun y o hy => ?_, ys ++ [x], upd_same, ?_⟩
          · rw [upd_ne (ne_of_none hy hA0)]; exact s1 y o hy
          · rw [tk]; exact DpAll.snoc d1 dx
    · rintro H1 ⟨s1, ys, h1, d1⟩
      rw [dp.length, List.take_length] at d1
      exact qR _ A0 ys H1 rfl s1 h1 (d1.keep s1)
end
end K40

namespace L2
open PySem PySem.Spec PyProof.Rows
/-! ## Displays of data -/
/-- data, its tuples plain ones -/
def Dq (K : PySem.W.Frag) (H : Hp) (v : V) (d : PyData) : Prop := Dp K H v d ∧ ∀ a, v = .ref a → Rg.isT d = true → PlT K H a
abbrev DqL (K : PySem.W.Frag) (H : Hp) : List V → List PyData → Prop := Paired (Dq K H)
theorem Dq.keep {K : PySem.W.Frag} {H H' : Hp} {v : V} {d : PyData} (h : Dq K H v d) (s : Same H H') : Dq K H' v d := ⟨h.1.keep s, fun a e t => (h.2 a e t).keep s⟩
theorem DqL.keep {K : PySem.W.Frag} {H H' : Hp} (s : Same H H') : ∀ {vs : List V} {ds : List PyData}, DqL K H vs ds → DqL K H' vs ds
  | _, _, .nil => .nil
  | _, _, .cons h t => .cons (h.keep s) (DqL.keep s t)
theorem DqL.all {K : PySem.W.Frag} {H : Hp} : ∀ {vs : List V} {ds : List PyData}, DqL K H vs ds → DpAll K H vs ds
  | _, _, .nil => .nil
  | _, _, .cons h t => .cons h.1 (DqL.all t)
theorem DqL.app {K : PySem.W.Frag} {H : Hp} : ∀ {vs ws : List V} {ds es : List PyData}, DqL K H vs ds → DqL K H ws es → DqL K H (vs ++ ws) (ds ++ es)
  | _, _, _, _, .nil, h => h
  | _, _, _, _, .cons x t, h => .cons x (DqL.app t h)
theorem DqL.at_ {K : PySem.W.Frag} {H : Hp} : ∀ {vs : List V} {ds : List PyData} {i : Nat}, DqL K H vs ds → i < ds.length → ∃ v d, vs[i]? = some v ∧ ds[i]? = some d ∧ Dq K H v d
  | _, _, _, .nil, h => absurd h (Nat.not_lt_zero _)
  | _, _, 0, .cons x t, _ => ⟨_, _, rfl, rfl, x⟩
  | _, _, i + 1, .cons x t, h => DqL.at_ (i := i) t (Nat.lt_of_succ_lt_succ h)
def tQ (Φ : St → Hp → Prop) (K : PySem.W.Frag) (d : PyData) : TE := fun σ H Q => Φ σ H ∧ ∀ v H', Same H H' → Dq K H' v d → Q v H'
def tQs (Φ : St → Hp → Prop) (K : PySem.W.Frag) (ds : List PyData) : TA := fun σ H Q => Φ σ H ∧ ∀ vs H', Same H H' → DqL K H' vs ds → Q vs H'
def Stb (Φ : St → Hp → Prop) : Prop := ∀ σ H H', Same H H' → Φ σ H → Φ σ H'
theorem PE.weak {X : Cx} {e : Expr} {t t' : TE} (h : PE X e t) (w : ∀ σ H Q, t' σ H Q → t σ H Q) : PE X e t' := ⟨fun pins s σ H Q I q => h.run pins s σ H Q I (w σ H Q q)⟩
theorem PA.weak {X : Cx} {es : List Expr} {t t' : TA} (h : PA X es t) (w : ∀ σ H Q, t' σ H Q → t σ H Q) : PA X es t' := ⟨fun pos pins s σ H Q I q => h.run pos pins s σ H Q I (w σ H Q q)⟩
section
variable {X : Cx} {Φ : St → Hp → Prop}
theorem q_int {i : Int} {j : _} {pos : Pos} : PE X (.Constant (.int i) j pos) (tQ Φ X.K (.int i)) := pe_int.weak fun _ H _ h => h.2 _ H (Same.refl _) ⟨.int i, fun _ e => nomatch e⟩
theorem q_bl {b : Bool} {j : _} {pos : Pos} : PE X (.Constant (.bool b) j pos) (tQ Φ X.K (.bool b)) := pe_bl.weak fun _ H _ h => h.2 _ H (Same.refl _) ⟨.bl b, fun _ e => nomatch e⟩
theorem q_non {j : _} {pos : Pos} : PE X (.Constant .none j pos) (tQ Φ X.K .none) := pe_non.weak fun _ H _ h => h.2 _ H (Same.refl _) ⟨.non, fun _ e => nomatch e⟩
theorem q_str {x : Str} {j : _} {pos : Pos} : PE X (.Constant (.str x) j pos) (tQ Φ X.K (.str x)) := pe_str.weak fun _ H _ h => h.2 _ H (Same.refl _) ⟨.str x, fun _ e => nomatch e⟩
theorem q_neg {i : Int} {j : _} {p pos : Pos} : PE X (.UnaryOp .USub (.Constant (.int i) j p) pos) (tQ Φ X.K (.int (-i))) := (pe_un un_neg pe_int).weak fun _ H _ h => ⟨i, rfl, h.2 _ H (Same.refl _) ⟨.int _, fun _ e => nomatch e⟩⟩
theorem q_nil : PA X [] (tQs Φ X.K []) := pa_nil.weak fun _ H _ h => h.2 [] H (Same.refl _) .nil
theorem q_cons (stb : Stb Φ) {e : Expr} {es : List Expr} {d : PyData} {ds : List PyData} (he : PE X e (tQ Φ X.K d)) (hes : PA X es (tQs Φ X.K ds)) (hs : starEach (e :: es) X.env = (false, eval e X.env) :: starEach es X.env := by rfl) : PA X (e :: es) (tQs Φ X.K (d :: ds)) :=
  (pa_cons he hes hs).weak fun σ H _ h => ⟨h.1, fun v H1 s1 d1 => ⟨stb σ H H1 s1 h.1, fun vs H2 s2 d2 => h.2 (v :: vs) H2 (s1.trans s2) (.cons (d1.keep s2) d2)⟩⟩
theorem q_tup {es : List Expr} {ds : List PyData} {x1 : _} {pos : Pos} (h : PA X es (tQs Φ X.K ds)) (hl : ds.length ≤ 1000 := by decide) : PE X (.Tuple es x1 pos) (tQ Φ X.K (.tuple ds)) :=
  (pe_tupF h).weak fun σ H _ q => ⟨q.1, fun vs H1 s1 d1 => ⟨by rw [d1.all.length, sizeLine_eq]; omega, fun p o hp oc od => q.2 _ _ (s1.trans (same_upd hp)) ⟨.tup (.inl (.inr ⟨o, upd_same⟩)) (d1.all.keep (same_upd hp)), fun a e _ => by cases e; exact .inl ⟨o, _, upd_same, oc, od⟩⟩⟩⟩
theorem q_lst {es : List Expr} {ds : List PyData} {pos : Pos} (h : PA X es (tQs Φ X.K ds)) (hl : ds.length ≤ 1000 := by decide) : PE X (.List es pos) (tQ Φ X.K (.list ds)) :=
  (pe_lst h).weak fun σ H _ q => ⟨q.1, fun vs H1 s1 d1 => ⟨by rw [d1.all.length, sizeLine_eq]; omega, fun p hp => q.2 _ _ (s1.trans (same_upd hp)) ⟨.lst (SqL.of upd_same) (d1.all.keep (same_upd hp)), fun a e t => nomatch t⟩⟩⟩
/-- the list itself, with its items -/
def tQL (Φ : St → Hp → Prop) (K : PySem.W.Frag) (ds : List PyData) : TE := fun σ H Q => Φ σ H ∧ ∀ A vs H', H A = none → Same H H' → H' A = some (.lst vs) → DqL K (del H' A) vs ds → Q (.ref A) H'
theorem q_list {es : List Expr} {ds : List PyData} {pos : Pos} (h : PA X es (tQs Φ X.K ds)) (hl : ds.length ≤ 1000 := by decide) : PE X (.List es pos) (tQL Φ X.K ds) :=
  (pe_lst h).weak fun σ H _ q => ⟨q.1, fun vs H1 s1 d1 => ⟨by rw [d1.all.length, sizeLine_eq]; omega, fun p hp => q.2 p vs _ (by
    cases z : H p with
    | none => rfl
    | some o => rw [s1 _ _ z] at hp; cases hp) (s1.trans (same_upd hp)) upd_same (DqL.keep (fun b o h => by rw [del_upd, del_ne (ne_of_none h hp)]; exact h) d1)⟩⟩
end
end L2
namespace K40
open PySem PySem.Spec PyProof.Rows L2 Rg PySem.RingX
section
variable {K : PySem.W.Frag} {H H' : Hp} {b c : Addr} {ns : List Int} {ct : Int}
theorem sqT_bag (B : BagAt H b c ns ct) (s : SameBut b H H') {a : Addr} {xs : List V} (q : SqT K H a xs) : SqT K H' a xs := by
  obtain ⟨kvs, hb⟩ := B.dk
  rcases q with (q | ⟨o, q⟩) | q
  · exact .inl (.inl (s _ _ (ne_of q hb (fun z => nomatch z)) q))
  · exact .inl (.inr ⟨o, s _ _ (ne_of q hb (fun z => nomatch z)) q⟩)
  · exact .inr q
theorem dp_bag (B : BagAt H b c ns ct) (s : SameBut b H H') : ∀ {d : PyData} {v : V}, Dp K H v d → Dp K H' v d := by
  intro d v h
  obtain ⟨kvs, hb⟩ := B.dk
  induction h using Dp.rec (motive_2 := fun vs ds _ => DpAll K H' vs ds) with
  | non => exact .non
  | bl b => exact .bl b
  | int i => exact .int i
  | str x => exact .str x
  | lst q _ ih =>
    refine .lst ?_ ih
    rcases q with (q | ⟨o, q⟩) | q
    · exact .inl (.inl (s _ _ (ne_of q hb (fun z => nomatch z)) q))
    · exact .inl (.inr ⟨o, s _ _ (ne_of q hb (fun z => nomatch z)) q⟩)
    · exact .inr q
  | tup q _ ih => exact .tup (sqT_bag B s q) ih
  | nil => exact .nil
  | cons _ _ ih1 ih2 => exact .cons ih1 ih2
theorem plT_bag (B : BagAt H b c ns ct) (s : SameBut b H H') {a : Addr} (h : PlT K H a) : PlT K H' a := by
  obtain ⟨kvs, hb⟩ := B.dk
  rcases h with ⟨o, u, h1, h2⟩ | h
  · exact .inl ⟨o, u, s _ _ (ne_of h1 hb (fun z => nomatch z)) h1, h2⟩
  · exact .inr h
theorem dq_bag (B : BagAt H b c ns ct) (s : SameBut b H H') {v : V} {d : PyData} (h : Dq K H v d) : Dq K H' v d := ⟨dp_bag B s h.1, fun a e t => plT_bag B s (h.2 a e t)⟩
theorem dqL_bag (B : BagAt H b c ns ct) (s : SameBut b H H') : ∀ {vs : List V} {ds : List PyData}, DqL K H vs ds → DqL K H' vs ds
  | _, _, .nil => .nil
  | _, _, .cons h t => .cons (dq_bag B s h) (dqL_bag B s t)
end
end K40

namespace L2
open PySem PySem.Spec PyProof.Rows
theorem q_var {X : Cx} {Φ : St → Hp → Prop} (i : Nat) {x : Str} {pos : Pos} {d : PyData} (hΦ : ∀ σ H, Φ σ H → ∃ v, σ[i]? = some (some v) ∧ Dq X.K H v d) (he : PE X (.Name x pos) (tVar i)) : PE X (.Name x pos) (tQ Φ X.K d) :=
  he.weak fun σ H _ h => let ⟨v, e, q⟩ := hΦ σ H h.1; ⟨v, e, h.2 v H (Same.refl _) q⟩
def ΦT : St → Hp → Prop := fun _ _ => True
theorem stbT : Stb ΦT := fun _ _ _ _ _ => trivial
end L2
namespace K40
open PySem PySem.Spec PyProof.Rows L2 Rg PySem.RingX
open Fm hiding D
def pool1 : List D := [.none, .int 5, .str "ab", .tuple [.int 1], .tuple [.int 1, .int (-1)], .tuple [.bool true, .int 1], .tuple [.int 1, .none], .list [.int 1, .int 1], .tuple [.int 1, .int 1, .int 1, .int 1], .tuple [.int 1, .str "1"]]
def pool2 : List D := [.none, .int 5, .str "abc", .tuple [.int 1, .int 1], .tuple [.int 1, .int (-1), .int 1], .tuple [.bool true, .int 1, .int 1], .tuple [.int 1, .none, .int 1], .list [.int 1, .int 1, .int 1], .tuple [.int 1, .int 1, .int 1, .int 1], .tuple [.int 1, .int 1, .str "1"]]
theorem pool1_no : ∀ d ∈ pool1, Rg.prD d = false := by
  intro d hd
  simp only [pool1, List.mem_cons, List.not_mem_nil, or_false] at hd
  rcases hd with e | e | e | e | e | e | e | e | e | e <;> subst e <;> rfl
theorem pool2_no : ∀ d ∈ pool2, itemD d = false := by
  intro d hd
  simp only [pool2, List.mem_cons, List.not_mem_nil, or_false] at hd
  rcases hd with e | e | e | e | e | e | e | e | e | e <;> subst e <;> rfl
theorem hand_no {k : Str} {ds : List D} {d : D} (ht : k ≠ "take") (h : (if putSet k = true then itemD d else Rg.prD d) = false) : HandB k ds d = false := by
  unfold HandB
  rw [if_neg ht, h]; rfl
theorem hand_off {k : Str} {ds : List D} (hr : ringL ds = true) {key h m : Int} (hd : (.tuple [.int key, .int h, .int m] : D) ∈ ds.filter isT) (ht : k ≠ "take") {z : Int} (hz : k = "put" ∨ z ≠ h) (y : Int) : HandB k ds (if putSet k = true then .tuple [.int key, .int z, .int y] else .tuple [.int key, .int z]) = false := by
  have th := there_own hr hd
  have e1 : keyD (.tuple [.int key, .int h, .int m]) = key := rfl
  have e2 : hashD (.tuple [.int key, .int h, .int m]) = h := rfl
  rw [e1, e2] at th
  have ne : (there ds key).isEmpty = false := by
    cases q : there ds key with
    | nil => rw [q] at th; cases th
    | cons _ _ => rfl
  have no : ((there ds key).isEmpty || (decide (k ≠ "put") && decide ((there ds key).head? = some z))) = false := by
    rw [ne, Bool.false_or, th]
    rcases hz with e | e
    · rw [decide_eq_false (by simpa using e)]; rfl
    · rw [decide_eq_false (fun q : some h = some z => e (Option.some.inj q).symm), Bool.and_false]
  unfold HandB
  rw [if_neg ht]
  cases hp : putSet k with
  | true =>
    rw [if_pos rfl, if_pos rfl]
    show (itemD _ && ((there ds key).isEmpty || (decide (k ≠ "put") && decide ((there ds key).head? = some z)))) = false
    rw [no, Bool.and_false]
  | false =>
    rw [if_neg (by decide), if_neg (by decide)]
    show (Rg.prD _ && ((there ds key).isEmpty || (decide (k ≠ "put") && decide ((there ds key).head? = some z)))) = false
    rw [no, Bool.and_false]
section
variable {P : Program} {w : World} {K : PySem.W.Frag} {mg : Str → Option Value} {base : Heap}
def spBad (K : PySem.W.Frag) : Sp := fun vs H Q _ => ∃ (b c : Addr) (ns : List Int) (ct : Int) (k : Str) (a : Addr) (ds : List D), vs = [.ref b, .str k, .ref a] ∧ BagAt H b c ns ct ∧ 0 ≤ ct ∧ ct < 500000 ∧ ns.length < 1000 ∧ Dp K H (.ref a) (.tuple ds) ∧ ringL ds = true ∧ ds.length ≤ 60 ∧
  ∀ (u : V) (e : D) (H' : Hp) (ct' : Int), 0 ≤ ct' → ct' ≤ ct + 10 → BagAt H' b c ns ct' → SameBut b H H' → Dp K H' u e → HandB k ds e = false → Q u H'
def nBd : List Str := ["bag", "kind", "ring", "items", "row", "bare", "k", "pool", "key", "hashed", "mark"]
theorem scBd : FnScope nBd ["bag", "kind", "ring"] (defScope s__law_bad_handed) := ⟨rfl, rfl, rfl, by decide +kernel, rfl, by decide +kernel, by decide +kernel⟩
theorem ok_bad {f fD : Addr} {fd dD : FuncData} (F : Fun K "_law_bad_handed" "_law_bad_handed" s__law_bad_handed f fd) (TG : GT mg) (GD : FnOk P w K mg base CX0 1 fD dD ["bag", "limit"] spDraw) (gD : mg "_law_draw" = some (.ref fD)) (kD : PySem.W.keepIn K (.ref fD) = true) (bD : L2.Binds K dD ["bag", "limit"] []) :
    FnOk P w K mg base CX0 2 f fd ["bag", "kind", "ring"] (spBad K) := by
  refine F.ok scBd (fun vs H Q E h => ?_) (fun cdv A outer s H vs Q E hr h => ?_)
  · obtain ⟨b, c, ns, ct, k, a, ds, rfl, _⟩ := h
    rfl
  · obtain ⟨b, c, ns, ct, k, a, ds, rfl, B, c0, c1, hns, da, hring, hlen, kk⟩ := h
    have hu := hu_of hr
    have hu64 := Room.units hr
    have hu65 : (A.deeper (envOfC "_law_bad_handed" (defScope s__law_bad_handed) s.heap.objs.size f cdv)).units + 65 < cLine := by have := hr.un; omega
    have its : ∀ d ∈ ds.filter isT, itemD d = true := fun d hd => row_item (List.all_eq_true.mp (ring_rows hring) _ (List.mem_filter.mp hd).1) (List.mem_filter.mp hd).2
    have ton : tOnlyAll (ds.filter isT) = true := tOnlyAll_iff.mpr fun d hd => tOnly_row (by unfold rowD; rw [its d hd, Bool.or_true])
    have toR : tOnly (.tuple ds) = true := tOnlyAll_iff.mpr fun d hd => tOnly_row (List.all_eq_true.mp (ring_rows hring) d hd)
    have ish := items_shape its
    have fl := List.length_filter_le isT ds
    have hpos := (ring_open hring).2
    -- one of the pool
    obtain ⟨tV, pV, qV⟩ : ∃ tV, PSs (cxOf CX0 P w K mg base nBd "_law_bad_handed" (defScope s__law_bad_handed) f cdv A outer s H E).nox ((defBody s__law_bad_handed).drop 5) tV ∧
        ∀ (D : Ends) (Ap : Addr) (vs : List V) (es : List Rg.D) (x3 x4 x5 x6 x8 x9 x10 : Option V) (H1 : Hp) (ct1 : Int), D.rt = Q → SameBut b H H1 → BagAt H1 b c ns ct1 → ct ≤ ct1 → ct1 ≤ ct + 5 → H1 Ap = some (.lst vs) → DqL K H1 vs es → es.length = 10 → (∀ d ∈ es, HandB k ds d = false) →
          tV D [some (.ref b), some (.str k), some (.ref a), x3, x4, x5, x6, some (.ref Ap), x8, x9, x10] H1 := by
      refine ⟨_, pss_one (ps_ret (pe_ix ix_list (pv 7) (pe_call GD hr (by rfl) gD kD bD .nil pass0 (pa_cons (pv 0) (pa_cons pe_int pa_nil))) (fun _ _ => rfl))), ?_⟩
      intro D Ap vs es x3 x4 x5 x6 x8 x9 x10 H1 ct1 hD s1 B1 k0 k1 hA dA l10 no
      refine ⟨_, rfl, _, rfl, b, c, 10, ns, ct1, rfl, B1, by omega, by omega, by decide, by decide, hns, fun r H2 hr1 hr2 B2 s2 => ?_⟩
      have hA2 := lst_but B1 s2 hA
      obtain ⟨v, d, hv, hd, dq⟩ := DqL.at_ (dqL_bag B1 s2 dA) (i := r.toNat) (by omega)
      have hv0 : atI vs r = some v := by
        have := atI_nat hv
        rw [Int.toNat_of_nonneg hr1] at this
        exact this
      refine ⟨Ap, vs, r, v, rfl, rfl, SqL.of hA2, hv0, ?_⟩
      rw [hD]
      exact kk v d H2 _ (by omega) (by omega) B2 (s1.trans s2) dq.1 (no d (List.mem_of_getElem? hd))
    -- another hash for a key that is there
    obtain ⟨tX, pX, qX⟩ : ∃ tX, PSs (cxOf CX0 P w K mg base nBd "_law_bad_handed" (defScope s__law_bad_handed) f cdv A outer s H E).nox ((defBody s__law_bad_handed).drop 4) tX ∧
        ∀ (D : Ends) (A0 Ap : Addr) (ys vs : List V) (es : List Rg.D) (x4 x5 x6 x8 x9 x10 : Option V) (H1 : Hp), D.rt = Q → Same H H1 → H1 A0 = some (.lst ys) → DpAll K H1 ys (ds.filter isT) → H1 Ap = some (.lst vs) → DqL K H1 vs es → es.length = 10 → (∀ d ∈ es, HandB k ds d = false) → k ≠ "take" →
          tX D [some (.ref b), some (.str k), some (.ref a), some (.ref A0), x4, x5, x6, some (.ref Ap), x8, x9, x10] H1 := by
      refine ⟨_, pss_cons (ps_if (PW.pt (pw_and (pt_cmpR (op_neD hu64) (pv 3) (pe_lst pa_nil) (nomark _)) (pw_and1 (pt_cmpR op_eq (pe_call GD hr (by rfl) gD kD bD .nil pass0 (pa_cons (pv 0) (pa_cons pe_int pa_nil))) pe_int (nomark _)))))
          (pss_cons (ps_asg (pe_ix ix_list (pv 3) (pe_call GD hr (by rfl) gD kD bD .nil pass0 (pa_cons (pv 0) (pa_cons (pe_callB call_len_seq (by rfl) TG.len PySem.boot_len (pa_cons (pv 3) pa_nil)) pa_nil))) (fun _ _ => rfl)) (pg_tup rfl (pgs_cons (pg_name (i := 8) scBd.nd rfl (Or.inl rfl)) (pgs_cons (pg_name (i := 9) scBd.nd rfl (Or.inl rfl)) (pgs_cons (pg_name (i := 10) scBd.nd rfl (Or.inl rfl)) pgs_nil)))))
          (pss_cons (ps_if (pt_cmpR op_eq (pv 1) pe_str (nomark _)) (pss_one (ps_ret (pe_tup (pa_cons (pv 8) (pa_cons (pe_op op_add (pv 9) (pe_call GD hr (by rfl) gD kD bD .nil pass0 (pa_cons (pv 0) (pa_cons pe_int pa_nil)))) (pa_cons pe_int pa_nil)))))) pss_nil)
          (pss_one (ps_ret (pe_ifExp (pt_cmpR op_eq (pv 1) pe_str (nomark _)) (pe_tup (pa_cons (pv 8) (pa_cons (pe_op op_add (pv 9) (pe_callB call_len_seq (by rfl) TG.len PySem.boot_len (pa_cons (pv 2) pa_nil))) (pa_cons pe_int pa_nil)))) (pe_tup (pa_cons (pv 8) (pa_cons (pe_op op_add (pv 9) (pe_callB call_len_seq (by rfl) TG.len PySem.boot_len (pa_cons (pv 2) pa_nil))) pa_nil)))))))) pss_nil) pV, ?_⟩
      intro D A0 Ap ys vs es x4 x5 x6 x8 x9 x10 H1 hD s1 hA dA hP dP l10 no ck
      have B1 := B.keep s1
      have yl := dA.length
      refine ⟨_, rfl, (by show 0 ≤ sizeLine; decide), fun l hl => ?_⟩
      have s2 := @same_upd _ l (.lst []) hl
      refine ⟨.list (ds.filter isT), .list [], .lst (SqL.of (s2 _ _ hA)) (dA.keep s2), .lst (SqL.of upd_same) .nil, ish, rfl, _, rfl, ?_⟩
      rw [eqv_nil]
      generalize upd H1 l (.lst []) = H2 at s2 ⊢
      have B2 := B1.keep s2
      have s12 := s1.trans s2
      have hA2 := s2 _ _ hA
      have dA2 := dA.keep s2
      cases hi : (ds.filter isT).isEmpty with
      | true => exact iteF (iteF (qV _ Ap vs es _ _ _ _ _ _ _ H2 ct hD (SameBut.of s12) B2 (by omega) (by omega) (s2 _ _ hP) (DqL.keep s2 dP) l10 no))
      | false =>
        have ipos : 0 < (ds.filter isT).length := by
          cases z : ds.filter isT with
          | nil => rw [z] at hi; cases hi
          | cons _ _ => simp
        refine iteT ⟨_, rfl, b, c, 2, ns, _, rfl, B2, by omega, by omega, by decide, by decide, hns, fun r3 H5 hr3 hr3' B5 s5 => ⟨rfl, _, rfl, ?_⟩⟩
        have hA5 := lst_but B2 s5 hA2
        have dA5 := DpAll.keepT (ext_but B2 s5) dA2 ton
        have sb5 := (SameBut.of s12).trans s5
        refine ite2 (fun _ => ?_) (fun _ => qV _ Ap vs es _ _ _ _ _ _ _ H5 _ hD sb5 B5 (by omega) (by omega) (lst_but B2 s5 (s2 _ _ hP)) (dqL_bag B2 s5 (DqL.keep s2 dP)) l10 no)
        refine ⟨_, rfl, _, rfl, _, rfl, A0, ys, rfl, .inl (SqL.of hA5), b, c, _, ns, _, rfl, B5, by omega, by omega, by omega, Int.lt_of_le_of_lt (show ((ys.length : Nat) : Int) ≤ 60 by omega) (by decide), hns, fun r4 H6 hr4 hr4' B6 s6 => ?_⟩
        have hA6 := lst_but B5 s6 hA5
        have dA6 := DpAll.keepT (ext_but B5 s6) dA5 ton
        have sb6 := sb5.trans s6
        have hm := List.getElem?_eq_getElem (l := ds.filter isT) (i := r4.toNat) (by omega)
        obtain ⟨v, hv1, hv2⟩ := dA6.get hm
        have mm := List.mem_of_getElem? hm
        obtain ⟨k', x', m', em, hx'⟩ := item_parts (its _ mm)
        rw [em] at hv2 mm
        obtain ⟨a2, rfl, q2⟩ := dp_item hv2
        have hv0 : atI ys r4 = some (.ref a2) := by
          have := atI_nat hv1
          rw [Int.toNat_of_nonneg hr4] at this
          exact this
        refine ⟨A0, ys, r4, .ref a2, rfl, rfl, SqL.of hA6, hv0, a2, _, rfl, q2, rfl, _, _, rfl, _, _, rfl, _, _, rfl, rfl, ?_⟩
        refine ⟨_, rfl, rfl, _, rfl, ?_⟩
        by_cases cp : k = "put"
        · refine ifT (decide_eq_true (congrArg V.str cp)) ⟨_, rfl, _, rfl, _, rfl, b, c, 2, ns, _, rfl, B6, by omega, by omega, by decide, by decide, hns, fun r5 H7 hr5 hr5' B7 s7 => ⟨_, _, rfl, rfl, (by show 3 ≤ sizeLine; decide), fun t ht => ?_⟩⟩
          have ho := hand_off (k := k) hring mm ck (z := x' + r5) (.inl cp) 9
          rw [if_pos (by rw [cp]; decide +kernel)] at ho
          have s8 := @same_upd _ t (.tup [V.int k', V.int (x' + r5), V.int 9]) ht
          rw [hD]
          exact kk _ _ _ _ (by omega) (by omega) (B7.keep s8) ((sb6.trans s7).trans (SameBut.of s8)) (.tup (SqT.of upd_same) (.cons (.int _) (.cons (.int _) (.cons (.int _) .nil)))) ho
        · refine ifF (decide_eq_false fun z => cp (V.str.inj z)) ?_
          obtain ⟨a', xs, ea, sq, dp⟩ := dp_tup (da.keepT (ext_but B sb6) toR)
          cases ea
          have xl := dp.length
          have ho := hand_off (k := k) hring mm ck (z := x' + (xs.length : Nat)) (.inr (by omega)) 9
          refine ⟨_, rfl, rfl, _, rfl, ?_⟩
          by_cases cs : k = "set"
          · rw [if_pos (by rw [cs]; decide +kernel)] at ho
            refine ifT (decide_eq_true (congrArg V.str cs)) ⟨_, rfl, _, rfl, _, rfl, a, xs, rfl, .inr sq, _, _, rfl, rfl, (by show 3 ≤ sizeLine; decide), fun t ht => ?_⟩
            have s8 := @same_upd _ t (.tup [V.int k', V.int (x' + (xs.length : Nat)), V.int 9]) ht
            rw [hD]
            exact kk _ _ _ _ (by omega) (by omega) (B6.keep s8) (sb6.trans (SameBut.of s8)) (.tup (SqT.of upd_same) (.cons (.int _) (.cons (.int _) (.cons (.int _) .nil)))) ho
          · have np : putSet k = false := by
              cases z : putSet k with
              | false => rfl
              | true => exact ((putSet_two z).elim cp cs).elim
            rw [if_neg (by rw [np]; decide)] at ho
            refine ifF (decide_eq_false fun z => cs (V.str.inj z)) ⟨_, rfl, _, rfl, _, rfl, a, xs, rfl, .inr sq, _, _, rfl, rfl, (by show 2 ≤ sizeLine; decide), fun t ht => ?_⟩
            have s8 := @same_upd _ t (.tup [V.int k', V.int (x' + (xs.length : Nat))]) ht
            rw [hD]
            exact kk _ _ _ _ (by omega) (by omega) (B6.keep s8) (sb6.trans (SameBut.of s8)) (.tup (SqT.of upd_same) (.cons (.int _) (.cons (.int _) .nil))) ho
    -- the pools
    obtain ⟨tY, pY, qY⟩ : ∃ tY, PSs (cxOf CX0 P w K mg base nBd "_law_bad_handed" (defScope s__law_bad_handed) f cdv A outer s H E).nox ((defBody s__law_bad_handed).drop 2) tY ∧
        ∀ (D : Ends) (A0 : Addr) (ys : List V) (x4 x5 x6 x7 x8 x9 x10 : Option V) (H1 : Hp), D.rt = Q → Same H H1 → H1 A0 = some (.lst ys) → DpAll K H1 ys (ds.filter isT) → k ≠ "take" →
          tY D [some (.ref b), some (.str k), some (.ref a), some (.ref A0), x4, x5, x6, x7, x8, x9, x10] H1 := by
      refine ⟨_, pss_cons (ps_set (i := 7) scBd.nd rfl (Or.inl rfl) (q_list (Φ := ΦT) (ds := pool1) (q_cons stbT q_non (q_cons stbT q_int (q_cons stbT q_str (q_cons stbT (q_tup (q_cons stbT q_int q_nil)) (q_cons stbT (q_tup (q_cons stbT q_int (q_cons stbT q_neg q_nil))) (q_cons stbT (q_tup (q_cons stbT q_bl (q_cons stbT q_int q_nil)))
          (q_cons stbT (q_tup (q_cons stbT q_int (q_cons stbT q_non q_nil))) (q_cons stbT (q_lst (q_cons stbT q_int (q_cons stbT q_int q_nil))) (q_cons stbT (q_tup (q_cons stbT q_int (q_cons stbT q_int (q_cons stbT q_int (q_cons stbT q_int q_nil))))) (q_cons stbT (q_tup (q_cons stbT q_int (q_cons stbT q_str q_nil))) q_nil))))))))))))
        (pss_cons (ps_if (pt_cmpR op_in_seq (pv 1) (pe_lst (pa_cons pe_str (pa_cons pe_str pa_nil))) (by rfl)) (pss_one (ps_set (i := 7) scBd.nd rfl (Or.inl rfl) (q_list (Φ := ΦT) (ds := pool2) (q_cons stbT q_non (q_cons stbT q_int (q_cons stbT q_str (q_cons stbT (q_tup (q_cons stbT q_int (q_cons stbT q_int q_nil))) (q_cons stbT (q_tup (q_cons stbT q_int (q_cons stbT q_neg (q_cons stbT q_int q_nil)))) (q_cons stbT (q_tup (q_cons stbT q_bl (q_cons stbT q_int (q_cons stbT q_int q_nil))))
          (q_cons stbT (q_tup (q_cons stbT q_int (q_cons stbT q_non (q_cons stbT q_int q_nil)))) (q_cons stbT (q_lst (q_cons stbT q_int (q_cons stbT q_int (q_cons stbT q_int q_nil)))) (q_cons stbT (q_tup (q_cons stbT q_int (q_cons stbT q_int (q_cons stbT q_int (q_cons stbT q_int q_nil))))) (q_cons stbT (q_tup (q_cons stbT q_int (q_cons stbT q_int (q_cons stbT q_str q_nil)))) q_nil))))))))))))) pss_nil) pX), ?_⟩
      intro D A0 ys x4 x5 x6 x7 x8 x9 x10 H1 hD s1 hA dA ck
      refine ⟨trivial, fun Ap vs H2 _ s2 hP dP0 => ?_⟩
      have dP := DqL.keep same_del dP0
      refine ⟨_, rfl, (by show 2 ≤ sizeLine; decide), fun l hl => ?_⟩
      have s3 := @same_upd _ l (.lst [V.str "put", V.str "set"]) hl
      refine ⟨l, _, rfl, .inl (SqL.of upd_same), rfl, by kernel_rfl, _, rfl, ?_⟩
      generalize upd H2 l (.lst [V.str "put", V.str "set"]) = H3 at s3 ⊢
      have s23 := s2.trans s3
      show if putSet k = true then _ else _
      cases hp : putSet k with
      | false => exact iteF (qX _ A0 Ap ys vs pool1 _ _ _ _ _ _ H3 hD (s1.trans s23) (s23 _ _ hA) (dA.keep s23) (s3 _ _ hP) (DqL.keep s3 dP) rfl (fun d hd => hand_no ck (by rw [hp, if_neg (by decide)]; exact pool1_no d hd)) ck)
      | true => exact iteT ⟨trivial, fun Ap2 vs2 H4 _ s4 hP4 dP4 => qX _ A0 Ap2 ys vs2 pool2 _ _ _ _ _ _ H4 hD ((s1.trans s23).trans s4) (s4 _ _ (s23 _ _ hA)) ((dA.keep s23).keep s4) hP4 (DqL.keep same_del dP4) rfl (fun d hd => hand_no ck (by rw [hp, if_pos rfl]; exact pool2_no d hd)) ck⟩
    obtain ⟨tR, pR, qR⟩ : ∃ tR, PSs (cxOf CX0 P w K mg base nBd "_law_bad_handed" (defScope s__law_bad_handed) f cdv A outer s H E).nox ((defBody s__law_bad_handed).drop 1) tR ∧
        ∀ (D : Ends) (A0 : Addr) (ys : List V) (H1 : Hp), D.rt = Q → Same H H1 → H1 A0 = some (.lst ys) → DpAll K H1 ys (ds.filter isT) → tR D [some (.ref b), some (.str k), some (.ref a), some (.ref A0), none, none, none, none, none, none, none] H1 := by
      refine ⟨_, pss_cons (ps_if (pt_cmpR op_eq (pv 1) pe_str (nomark _))
          (pss_cons (ps_setLc (i := 5) (own := [("k", 6)]) (g := gName 6) rfl scBd.nd rfl rfl (by rfl) (pi_range1 (by rfl) TG.range (pa_cons (pe_callB call_len_seq (by rfl) TG.len PySem.boot_len (pa_cons (pv 2) pa_nil)) pa_nil)) (blkOk_by (own := [("k", 6)]) (N := nBd) (sc := defScope s__law_bad_handed) (by decide +kernel))
            (fun _ _ _ _ _ => pg_name (i := 6) scBd.nd rfl (Or.inl rfl)) (fun _ _ _ _ _ => pts_one (pt_cmpR (show OpR _ _ (rNotInD K) from op_notInD hu65) (pe_ix (show IxR _ (rIxT K) from ix_tup) (pv 2) (pv 6) (fun _ _ => rfl)) (pv 3) (by rfl))) (fun _ _ _ _ _ => pv 6))
          (pss_cons (ps_set (i := 7) scBd.nd rfl (Or.inl rfl) (pe_lst (pa_cons (pe_ix ix_list (pv 5) (pe_call GD hr (by rfl) gD kD bD .nil pass0 (pa_cons (pv 0) (pa_cons (pe_callB call_len_seq (by rfl) TG.len PySem.boot_len (pa_cons (pv 5) pa_nil)) pa_nil))) (fun _ _ => rfl)) (pa_cons (pe_callB call_len_seq (by rfl) TG.len PySem.boot_len (pa_cons (pv 2) pa_nil)) (pa_cons (pe_un un_neg pe_int) (pa_cons pe_bl (pa_cons pe_non (pa_cons pe_str (pa_cons (pe_lst (pa_cons pe_int pa_nil)) (pa_cons (pe_tup (pa_cons pe_int pa_nil)) (pa_cons (pe_un un_neg (pe_callB call_len_seq (by rfl) TG.len PySem.boot_len (pa_cons (pv 2) pa_nil))) pa_nil)))))))))))
          (pss_one (ps_ret (pe_ix ix_list (pv 7) (pe_call GD hr (by rfl) gD kD bD .nil pass0 (pa_cons (pv 0) (pa_cons pe_int pa_nil))) (fun _ _ => rfl)))))) pss_nil) pY, ?_⟩
      intro D A0 ys H1 hD s1 hA dA
      obtain ⟨a', xs, ea, sq, dp⟩ := dp_tup da
      cases ea
      have xl := dp.length
      have rowsOk := ring_rows hring
      have B1 := B.keep s1
      refine ⟨_, rfl, rfl, _, rfl, ?_⟩
      by_cases ck : k = "take"
      · refine ifT (decide_eq_true (congrArg V.str ck)) ?_
        let bareL : Nat → List Int := fun i => ((List.range i).filter fun r => !isT (row ds (r : Nat))).map fun (r : Nat) => (r : Int)
        refine ⟨_, rfl, a, xs, rfl, .inr (s1.sqT sq), _, rfl, by omega, by omega, fun A1 hA1 => lc_range (n := xs.length) (fun i H' => Same H1 H' ∧ H' A1 = some (.lst ((bareL i).map V.int))) ⟨same_upd hA1, upd_same⟩ ?_ ?_⟩
        · rintro i H2 hi ⟨s2, h2⟩
          have s12 := s1.trans s2
          obtain ⟨v, hv1, hv2⟩ := dp.get (row_get? (ds := ds) (i := i) (by omega))
          have dm : row ds (i : Int) ∈ ds := List.mem_of_getElem? (row_get? (by omega))
          have e0 : (0 : Int) + (i : Int) = i := by omega
          have bl : bareL (i + 1) = bareL i ++ (if (!isT (row ds (i : Int))) = true then [(i : Int)] else []) := by
            show (((List.range (i + 1)).filter _).map _) = _
            rw [List.range_succ, List.filter_append, List.map_append, List.filter_cons, List.filter_nil]
            split <;> rfl
          have ll : (bareL i).length ≤ i := by
            show (((List.range i).filter _).map _).length ≤ i
            rw [List.length_map]
            exact Nat.le_trans (List.length_filter_le _ _) (by rw [List.length_range]; omega)
          refine ⟨rfl, _, rfl, _, rfl, a, xs, _, v, rfl, rfl, s12.sqT sq, by rw [e0]; exact atI_nat hv1, _, rfl, row ds (i : Int), ds.filter isT, hv2.keep s12, .lst (SqL.of (s2 _ _ hA)) (dA.keep s2), ?_, ish, _, rfl, ?_⟩
          · obtain ⟨h1, h2⟩ := row_shape (List.all_eq_true.mp rowsOk _ dm)
            unfold SeqAt.shaped
            rw [h1, Bool.true_and]
            exact decide_eq_true (by omega)
          rw [eqv_items rowsOk dm]
          cases ht : isT (row ds (i : Int)) with
          | true =>
            rw [ht, if_neg (by decide), List.append_nil] at bl
            exact iteF ⟨s2, by rw [bl]; exact h2⟩
          | false =>
            rw [ht, if_pos (by decide)] at bl
            refine iteT ⟨_, rfl, _, h2, by rw [List.length_map, sizeLine_eq]; omega, fun y o hy => ?_, ?_⟩
            · rw [upd_ne (ne_of_none hy hA1)]; exact s2 y o hy
            · rw [upd_same, bl, List.map_append, e0]; rfl
        · rintro H2 ⟨s2, h2⟩
          have s12 := s1.trans s2
          have B2 := B1.keep s2
          obtain ⟨j0, jm, jb⟩ : ∃ j0 : Int, j0 ∈ bareL xs.length ∧ ∀ j ∈ bareL xs.length, 0 ≤ j ∧ j < ds.length ∧ isT (row ds j) = false := by
            have all : ∀ j ∈ bareL xs.length, 0 ≤ j ∧ j < ds.length ∧ isT (row ds j) = false := fun j hj => by
              obtain ⟨r, hr1, rfl⟩ := List.mem_map.mp hj
              obtain ⟨hr2, hr3⟩ := List.mem_filter.mp hr1
              rw [List.mem_range] at hr2
              exact ⟨by omega, by omega, by simpa using hr3⟩
            have anyE : ds.any emp = true := by
              have h := hring
              unfold ringL at h
              exact (Bool.and_eq_true_iff.mp (Bool.and_eq_true_iff.mp h).2).1
            obtain ⟨d, hd, he⟩ := List.any_eq_true.mp anyE
            obtain ⟨i, hi, ei⟩ := List.getElem_of_mem hd
            refine ⟨(i : Int), List.mem_map.mpr ⟨i, List.mem_filter.mpr ⟨List.mem_range.mpr (by omega), ?_⟩, rfl⟩, all⟩
            rw [row_nat hi, ei, emp_none.mp he]; rfl
          have lpos : 0 < (bareL xs.length).length := List.length_pos_of_mem jm
          have lle : (bareL xs.length).length ≤ 60 := by
            show (((List.range xs.length).filter _).map _).length ≤ 60
            rw [List.length_map]
            exact Nat.le_trans (List.length_filter_le _ _) (by rw [List.length_range]; omega)
          generalize bareL xs.length = js at *
          refine ⟨_, rfl, _, rfl, _, rfl, A1, _, rfl, .inl (SqL.of h2), b, c, _, ns, ct, rfl, B2, by omega, by omega, by rw [List.length_map]; omega, ?_, hns, fun r H4 hr1 hr2 B4 s4 => ?_⟩
          · rw [List.length_map]
            exact Int.lt_of_le_of_lt (show ((js.length : Nat) : Int) ≤ 60 by omega) (by decide)
          rw [List.length_map] at hr2
          have h4 := lst_but B2 s4 h2
          have sb4 := (SameBut.of s12).trans s4
          have sq4 := sqT_bag B sb4 sq
          have hm := List.getElem?_eq_getElem (l := js) (i := r.toNat) (by omega)
          obtain ⟨m1, m2, m3⟩ := jb _ (List.mem_of_getElem? hm)
          generalize js[r.toNat] = j at hm m1 m2 m3
          have hv0 : atI (js.map V.int) r = some (.int j) := by
            have := atI_nat (xs := js.map V.int) (j := r.toNat) (v := .int j) (by rw [List.getElem?_map, hm]; rfl)
            rw [Int.toNat_of_nonneg hr1] at this
            exact this
          refine ⟨A1, _, r, .int j, rfl, rfl, SqL.of h4, hv0, _, rfl, a, xs, rfl, .inr sq4, _, rfl, (by show 1 ≤ sizeLine; decide), fun l1 hl1 => ?_⟩
          have t1 := @same_upd _ l1 (.lst [V.int 0]) hl1
          refine ⟨(by show 1 ≤ sizeLine; decide), fun l2 hl2 => ?_⟩
          have t2 := @same_upd _ l2 (.tup [V.int 0]) hl2
          have t12 := t1.trans t2
          refine ⟨_, rfl, a, xs, rfl, .inr (t12.sqT sq4), _, rfl, (by show 9 ≤ sizeLine; decide), fun Ap hAp => ?_⟩
          have t3 := @same_upd _ Ap (.lst [V.int j, V.int (xs.length : Nat), V.int (-1), V.bl true, V.non, V.str "0", V.ref l1, V.ref l2, V.int (-(xs.length : Nat))]) hAp
          have no : ∀ d ∈ ([.int j, .int (xs.length : Nat), .int (-1), .bool true, .none, .str "0", .list [.int 0], .tuple [.int 0], .int (-(xs.length : Nat))] : List Rg.D), HandB k ds d = false := by
            have ti : ∀ i : Int, (¬ (0 ≤ i) ∨ ¬ (i < ds.length) ∨ isT (row ds i) = false) → HandB k ds (.int i) = false := fun i h => by
              unfold HandB
              rw [if_pos ck]
              show (decide (0 ≤ i) && (decide (i < ds.length) && isT (row ds i))) = false
              rcases h with h | h | h
              · rw [decide_eq_false h]; rfl
              · rw [decide_eq_false h, Bool.false_and, Bool.and_false]
              · rw [h, Bool.and_false, Bool.and_false]
            have to : ∀ d : Rg.D, (∀ i, d ≠ .int i) → HandB k ds d = false := fun d h => by
              unfold HandB
              rw [if_pos ck]
              cases d <;> first | rfl | exact absurd rfl (h _)
            intro d hd
            simp only [List.mem_cons, List.not_mem_nil, or_false] at hd
            rcases hd with e | e | e | e | e | e | e | e | e <;> subst e
            · exact ti j (.inr (.inr m3))
            · exact ti _ (.inr (.inl (by omega)))
            · exact ti _ (.inl (by omega))
            · exact to _ fun i z => nomatch z
            · exact to _ fun i z => nomatch z
            · exact to _ fun i z => nomatch z
            · exact to _ fun i z => nomatch z
            · exact to _ fun i z => nomatch z
            · exact ti _ (.inl (by omega))
          have hAp6 : upd (upd (upd H4 l1 (.lst [V.int 0])) l2 (.tup [V.int 0])) Ap (.lst [V.int j, V.int (xs.length : Nat), V.int (-1), V.bl true, V.non, V.str "0", V.ref l1, V.ref l2, V.int (-(xs.length : Nat))]) Ap = some (.lst [V.int j, V.int (xs.length : Nat), V.int (-1), V.bl true, V.non, V.str "0", V.ref l1, V.ref l2, V.int (-(xs.length : Nat))]) := upd_same
          have d9 : DpAll K (upd (upd (upd H4 l1 (.lst [V.int 0])) l2 (.tup [V.int 0])) Ap (.lst [V.int j, V.int (xs.length : Nat), V.int (-1), V.bl true, V.non, V.str "0", V.ref l1, V.ref l2, V.int (-(xs.length : Nat))])) [V.int j, V.int (xs.length : Nat), V.int (-1), V.bl true, V.non, V.str "0", V.ref l1, V.ref l2, V.int (-(xs.length : Nat))] ([.int j, .int (xs.length : Nat), .int (-1), .bool true, .none, .str "0", .list [.int 0], .tuple [.int 0], .int (-(xs.length : Nat))] : List Rg.D) :=
            .cons (.int _) (.cons (.int _) (.cons (.int _) (.cons (.bl _) (.cons .non (.cons (.str _) (.cons (.lst (SqL.of (t3 _ _ (t2 _ _ upd_same))) (.cons (.int _) .nil)) (.cons (.tup (SqT.of (t3 _ _ upd_same)) (.cons (.int _) .nil)) (.cons (.int _) .nil))))))))
          have t123 := t12.trans t3
          have B6 := B4.keep t123
          have sb6 := sb4.trans (SameBut.of t123)
          generalize upd (upd (upd H4 l1 (.lst [V.int 0])) l2 (.tup [V.int 0])) Ap (.lst [V.int j, V.int (xs.length : Nat), V.int (-1), V.bl true, V.non, V.str "0", V.ref l1, V.ref l2, V.int (-(xs.length : Nat))]) = H6 at hAp6 d9 B6 sb6 ⊢
          refine ⟨_, rfl, _, rfl, b, c, 9, ns, _, rfl, B6, by omega, by omega, by decide, by decide, hns, fun r2 H7 hr3 hr4 B7 s7 => ?_⟩
          have hA7 := lst_but B6 s7 hAp6
          have hm9 := List.getElem?_eq_getElem (l := ([.int j, .int (xs.length : Nat), .int (-1), .bool true, .none, .str "0", .list [.int 0], .tuple [.int 0], .int (-(xs.length : Nat))] : List Rg.D)) (i := r2.toNat) (by show _ < 9; omega)
          obtain ⟨v, hv1, hv2⟩ := d9.get hm9
          have hv9 : atI [V.int j, V.int (xs.length : Nat), V.int (-1), V.bl true, V.non, V.str "0", V.ref l1, V.ref l2, V.int (-(xs.length : Nat))] r2 = some v := by
            have := atI_nat hv1
            rw [Int.toNat_of_nonneg hr3] at this
            exact this
          refine ⟨Ap, _, r2, v, rfl, rfl, SqL.of hA7, hv9, ?_⟩
          rw [hD]
          exact kk v _ H7 _ (by omega) (by omega) B7 (sb6.trans s7) (dp_bag B6 s7 hv2) (no _ (List.mem_of_getElem? hm9))
      · refine ifF (decide_eq_false fun z => ck (V.str.inj z)) ?_
        exact qY _ A0 ys _ _ _ _ _ _ _ H1 hD s1 hA dA ck
    refine ⟨_, pss_cons (ps_set (i := 3) scBd.nd rfl (Or.inr rfl) (pe_lc (own := [("row", 4)]) (g := gName 4) rfl scBd.nd (pi_tup (pv 2)) (blkOk_by (own := [("row", 4)]) (N := nBd) (sc := defScope s__law_bad_handed) (by decide +kernel))
          (fun _ _ _ _ _ => pg_name (i := 4) scBd.nd rfl (Or.inl rfl)) (fun _ _ _ _ _ => pts_one (PW.pt (pw_and (pt_cmpR op_notN (pv 4) pe_non (nomark _)) (pw_and1 (pt_cmpR (show OpR _ _ (rNeD K) from op_neD hu64) (pv 4) pe_str (nomark _)))))) (fun _ _ _ _ _ => pv 4)))
      pR, ?_⟩
    obtain ⟨a', xs, ea, sq, dp⟩ := dp_tup da
    cases ea
    refine ⟨_, rfl, a, rfl, ⟨_, sq⟩, fun A0 hA0 => lc_tup (K := K) (a := a) (xs := xs) (fun i H' => Same H H' ∧ ∃ ys, H' A0 = some (.lst ys) ∧ DpAll K H ys ((ds.take i).filter isT)) ⟨same_upd hA0, [], upd_same, .nil⟩ (fun i H' _ h => h.1.sqT sq) ?_ ?_⟩
    · rintro i x H1 hx ⟨s1, ys, h1, d1⟩
      obtain ⟨d, hd, dx⟩ := dp_at dp hx
      have dm := List.mem_of_getElem? hd
      have rd := List.all_eq_true.mp (ring_rows hring) d dm
      have il : i < ds.length := (List.getElem?_eq_some_iff.mp hd).1
      have tk : (ds.take (i + 1)).filter isT = (ds.take i).filter isT ++ (if isT d = true then [d] else []) := by
        rw [take_more hd, List.filter_append, List.filter_cons, List.filter_nil]
      have sh : SeqAt.shaped d = true := by
        obtain ⟨g1, g2⟩ := row_shape rd
        unfold SeqAt.shaped
        rw [g1, Bool.true_and]
        exact decide_eq_true (by omega)
      refine ⟨rfl, _, rfl, rfl, _, rfl, ?_⟩
      rw [dp_emp dx]
      have kt := keep_T rd
      unfold keepD at kt
      cases he : emp d with
      | true =>
        rw [he, Bool.not_true, Bool.false_and] at kt
        rw [← kt, if_neg (by decide), List.append_nil] at tk
        exact iteF (iteF ⟨s1, ys, h1, by rw [tk]; exact d1⟩)
      | false =>
        rw [he] at kt
        refine iteT ⟨_, rfl, d, .str "stone", dx.keep s1, .str "stone", sh, by decide +kernel, _, rfl, ?_⟩
        rw [eqv_stone]
        cases hs : stoneD d with
        | true =>
          rw [hs] at kt
          rw [← kt, if_neg (by decide), List.append_nil] at tk
          exact iteF ⟨s1, ys, h1, by rw [tk]; exact d1⟩
        | false =>
          rw [hs] at kt
          rw [← kt, if_pos (by decide)] at tk
          have yl := d1.length
          have l1 := List.length_filter_le isT (ds.take i)
          rw [List.length_take] at l1
          refine iteT ⟨_, rfl, _, h1, by rw [sizeLine_eq]; omega, fun y o hy => ?_, ys ++ [x], upd_same, ?_⟩
          · rw [upd_ne (ne_of_none hy hA0)]; exact s1 y o hy
          · rw [tk]; exact DpAll.snoc d1 dx
    · rintro H1 ⟨s1, ys, h1, d1⟩
      rw [dp.length, List.take_length] at d1
      exact qR _ A0 ys H1 rfl s1 h1 (d1.keep s1)
end
end K40

namespace K40
open PySem PySem.Spec PyProof.Rows L2 Rg PySem.RingX
open Fm hiding D
/-! ## values that are no rings here -/
def oneD : D := .tuple [.int 1, .int 0, .int 5]
def twoD : D := .tuple [.int 2, .int 1, .int 6]
def odd1 (ds : List D) : List D := [.list ds, .tuple [], .str "", .int 5, .none, .tuple [oneD], .tuple [oneD, .tuple [.int 1, .int 1, .int 7], .none], .tuple [oneD, .str "Stone", .none], .tuple [oneD, .int 7, .none]]
def odd2 : List D := [.tuple [.tuple [.int 1, .int 0], .none], .tuple [.tuple [.int 1, .int (-1), .int 5], .none], .tuple [.tuple [.int 1, .int 0, .bool true], .none], .tuple [.list [.int 1, .int 0, .int 5], .none], .tuple [oneD, twoD], .tuple [.str "stone"]]
def odd3 : List D := [.tuple [.none, oneD, .none], .tuple [.none, .none, .tuple [.int 1, .int 3, .int 5], .none], .tuple [.none, .tuple [.int 3, .int 2, .int 1], .none, .none]]
def odd4 : D := .tuple [.str "stone", .none, .none]
def odd5 : D := .tuple [oneD, twoD, .tuple [.int 3, .int 0, .int 7], .none, .none]
def odd6 : List D := [.tuple [oneD, .none], .tuple [.none], .tuple [oneD, twoD, .none]]
/-- no ring for the kind and the way -/
def OddR (k way : Str) (d : D) : Prop := Short d ∧ ¬ PlayB k way d
theorem odd_no {k way : Str} {d : D} (h : ringD d = false) (s : Short d) : OddR k way d := ⟨s, fun ⟨ds, e, hr, _⟩ => by
  rw [e, show ringD (.tuple ds) = ringL ds from rfl, hr] at h; cases h⟩
theorem lawful_reached {ds : List D} {x : Str} (h : Lawful ds x) : Reached ds := by
  by_cases e : x = "stones"
  · exact h.1 e
  · exact (h.2 e).2.1
theorem odd1_ok {k way : Str} {ds : List D} : ∀ d ∈ odd1 ds, OddR k way d := by
  intro d hd
  simp only [odd1, List.mem_cons, List.not_mem_nil, or_false] at hd
  rcases hd with e | e | e | e | e | e | e | e | e <;> subst e
  · exact odd_no rfl fun ds' e => nomatch e
  · exact odd_no (by decide +kernel) fun ds' e => by cases e; decide
  · exact odd_no rfl fun ds' e => nomatch e
  · exact odd_no rfl fun ds' e => nomatch e
  · exact odd_no rfl fun ds' e => nomatch e
  all_goals exact odd_no (by decide +kernel) fun ds' e => by cases e; decide
theorem odd2_ok {k way : Str} : ∀ d ∈ odd2, OddR k way d := by
  intro d hd
  simp only [odd2, List.mem_cons, List.not_mem_nil, or_false] at hd
  rcases hd with e | e | e | e | e | e <;> subst e
  all_goals exact odd_no (by decide +kernel) fun ds' e => by cases e; decide
theorem odd3_ok {k way : Str} : ∀ d ∈ odd3, OddR k way d := by
  have go : ∀ (ds : List D) (r : Int) , ds.length ≤ 1000 → isT (row ds r) = true → ((1 : Nat) : Int) ≤ gap ds r → E ds (r - ((1 : Nat) : Int)) → OddR k way (.tuple ds) := fun ds r l h1 h2 h3 => ⟨fun ds' e => (by cases e; exact l), fun ⟨ds', e, _, hl, _⟩ => by
    cases e
    exact lawful_reached hl r h1 1 h2 h3⟩
  intro d hd
  simp only [odd3, List.mem_cons, List.not_mem_nil, or_false] at hd
  rcases hd with e | e | e <;> subst e
  · exact go _ 1 (by decide) (by decide) (by decide) (by decide)
  · exact go _ 2 (by decide) (by decide) (by decide) (by decide)
  · exact go _ 1 (by decide) (by decide) (by decide) (by decide)
theorem odd4_ok {k way : Str} (h : way ≠ "stones") : OddR k way odd4 := ⟨fun ds' e => by cases e; decide, fun ⟨ds', e, _, hl, _⟩ => by
  cases e
  have := (hl.2 h).1 0
  exact absurd this (by decide +kernel)⟩
theorem odd5_ok {k way : Str} (h : way = "sorted") : OddR k way odd5 := ⟨fun ds' e => by cases e; decide, fun ⟨ds', e, _, hl, _⟩ => by
  cases e
  have n1 : way ≠ "stones" := by rw [h]; decide +kernel
  have n2 : way ≠ "plain" := by rw [h]; decide +kernel
  have := (hl.2 n1).2.2 n2 1 (by decide) (by decide)
  exact absurd this (by decide)⟩
theorem odd6_ok {k way : Str} (h : putSet k = true) : ∀ d ∈ odd6, OddR k way d := by
  have go : ∀ ds : List D, ds.length ≤ 1000 → ds.countP emp < 2 → OddR k way (.tuple ds) := fun ds l c => ⟨fun ds' e => (by cases e; exact l), fun ⟨ds', e, _, _, hc⟩ => by
    cases e
    have := hc h
    omega⟩
  intro d hd
  simp only [odd6, List.mem_cons, List.not_mem_nil, or_false] at hd
  rcases hd with e | e | e <;> subst e
  all_goals exact go _ (by decide) (by decide)
theorem q_var' {X : Cx} {Φ : L2.St → Hp → Prop} (i : Nat) {x : Str} {pos : Pos} {d : PyData} (hΦ : ∀ σ H, Φ σ H → ∃ v, σ[i]? = some (some v) ∧ Dq X.K H v d) (hN : X.N[i]? = some x := by rfl) (hv : Vis X.env.scope x := by first | exact Or.inl rfl | exact Or.inr (Or.inl rfl) | exact Or.inr (Or.inr rfl)) (hd : (x == ("__debug__" : Str)) = false := by decide)
    (hcd : (x == ("__classdict__" : Str)) = false := by decide) : PE X (.Name x pos) (tQ Φ X.K d) := q_var i hΦ (pe_var hN hv hd hcd)
/-- one, two and the rows, where they stand -/
def ΦO (K : PySem.W.Frag) (ds : List D) : L2.St → Hp → Prop := fun σ H => (∃ v, σ[4]? = some (some v) ∧ Dq K H v oneD) ∧ (∃ v, σ[5]? = some (some v) ∧ Dq K H v twoD) ∧ ∃ a xs, σ[3]? = some (some (.ref a)) ∧ SqT K H a xs ∧ DpAll K H xs ds
theorem stbO {K : PySem.W.Frag} {ds : List D} : Stb (ΦO K ds) := fun σ H H' s ⟨⟨v, e, d⟩, ⟨u, f, g⟩, a, xs, h, q, p⟩ => ⟨⟨v, e, d.keep s⟩, ⟨u, f, g.keep s⟩, a, xs, h, s.sqT q, p.keep s⟩
/-- the pool, so far -/
structure OddS (K : PySem.W.Frag) (k way : Str) (H H1 : Hp) (Ap : Addr) (es : List D) (v1 v2 : V) : Prop where
  sm : Same H H1
  pl : ∃ vs, H1 Ap = some (.lst vs) ∧ DqL K (del H1 Ap) vs es
  d1 : Dq K H1 v1 oneD
  d2 : Dq K H1 v2 twoD
  ok : ∀ d ∈ es, OddR k way d
section
variable {K : PySem.W.Frag} {k way : Str} {H H1 H2 : Hp} {Ap : Addr} {es es2 : List D} {v1 v2 : V}
theorem OddS.same (S : OddS K k way H H1 Ap es v1 v2) (s : Same H1 H2) : OddS K k way H H2 Ap es v1 v2 := by
  obtain ⟨vs, h1, h2⟩ := S.pl
  exact ⟨S.sm.trans s, ⟨vs, s _ _ h1, DqL.keep s.del h2⟩, S.d1.keep s, S.d2.keep s, S.ok⟩
theorem OddS.app (S : OddS K k way H H1 Ap es v1 v2) {A2 p : Addr} {vs vs2 : List V} (hv : H1 Ap = some (.lst vs)) (s : Same H1 H2) (d2 : DqL K (del H2 A2) vs2 es2) (ok : ∀ d ∈ es2, OddR k way d) (hp : H2 p = none) :
    OddS K k way H (upd H2 p (.lst (vs ++ vs2))) p (es ++ es2) v1 v2 := by
  obtain ⟨vs', h1, h2⟩ := S.pl
  rw [hv] at h1
  cases h1
  have sp := @same_upd _ p (.lst (vs ++ vs2)) hp
  have sd : Same H2 (del (upd H2 p (.lst (vs ++ vs2))) p) := fun b o h => by rw [del_upd, del_ne (ne_of_none h hp)]; exact h
  refine ⟨(S.sm.trans s).trans sp, ⟨_, upd_same, DqL.app (DqL.keep sd (DqL.keep s (DqL.keep same_del h2))) (DqL.keep sd (DqL.keep same_del d2))⟩, (S.d1.keep s).keep sp, (S.d2.keep s).keep sp, fun d hd => ?_⟩
  rcases List.mem_append.mp hd with z | z
  · exact S.ok d z
  · exact ok d z
theorem dq_tO {H H' : Hp} {v : V} {d : D} (h : Dq K H v d) (t : tOnly d = true) (e : ExtT H H') : Dq K H' v d := ⟨h.1.keepT e t, fun a ea ta => by
  rcases h.2 a ea ta with ⟨o, u, g1, g2⟩ | g
  · exact .inl ⟨o, u, e _ _ (.inr ⟨o, u, rfl⟩) g1, g2⟩
  · exact .inr g⟩
theorem ext_del {p : Addr} {xs : List V} (h : H p = some (.lst xs)) : ExtT H (del H p) := fun q o ho hq => by
  have e : q ≠ p := by
    rintro rfl
    rw [h] at hq
    cases hq
    rcases ho with ⟨ys, z⟩ | ⟨u, v, z⟩ <;> cases z
  rw [del_ne e]; exact hq
theorem OddS.push (S : OddS K k way H H1 Ap es v1 v2) (ha : H Ap = none) {vs : List V} (hv : H1 Ap = some (.lst vs)) {v : V} {d : D} (dv : Dq K H1 v d) (t : tOnly d = true) (ok : OddR k way d) : OddS K k way H (upd H1 Ap (.lst (vs ++ [v]))) Ap (es ++ [d]) v1 v2 := by
  obtain ⟨vs', h1, h2⟩ := S.pl
  rw [hv] at h1
  cases h1
  have e := ExtT.lst (o := .lst (vs ++ [v])) hv
  refine ⟨fun b o h => by rw [upd_ne (ne_of_none h ha)]; exact S.sm b o h, ⟨_, upd_same, by rw [del_upd]; exact DqL.app h2 (.cons (dq_tO dv t (ext_del hv)) .nil)⟩, dq_tO S.d1 (by decide) e, dq_tO S.d2 (by decide) e, fun d' hd => ?_⟩
  rcases List.mem_append.mp hd with z | z
  · exact S.ok d' z
  · rw [List.mem_singleton.mp z]; exact ok
end
section
variable {P : Program} {w : World} {K : PySem.W.Frag} {mg : Str → Option Value} {base : Heap}
def spOdd (K : PySem.W.Frag) : Sp := fun vs H Q _ => ∃ (b c : Addr) (ns : List Int) (ct : Int) (k way : Str) (a : Addr) (ds : List D), vs = [.ref b, .str way, .str k, .ref a] ∧ BagAt H b c ns ct ∧ 0 ≤ ct ∧ ct < 500000 ∧ ns.length < 1000 ∧ Dp K H (.ref a) (.tuple ds) ∧
  ∀ (u : V) (e : D) (H' : Hp), BagAt H' b c ns (ct + 1) → SameBut b H H' → Dq K H' u e → OddR k way e → Q u H'
def nOd : List Str := ["bag", "way", "kind", "rows", "one", "two", "pool"]
theorem scOd : FnScope nOd ["bag", "way", "kind", "rows"] (defScope s__law_odd_ring) := ⟨rfl, rfl, rfl, by decide +kernel, rfl, by decide +kernel, by decide +kernel⟩
theorem ok_odd {f fD : Addr} {fd dD : FuncData} (F : Fun K "_law_odd_ring" "_law_odd_ring" s__law_odd_ring f fd) (TG : GT mg) (GD : FnOk P w K mg base CX0 1 fD dD ["bag", "limit"] spDraw) (gD : mg "_law_draw" = some (.ref fD)) (kD : PySem.W.keepIn K (.ref fD) = true) (bD : L2.Binds K dD ["bag", "limit"] []) :
    FnOk P w K mg base CX0 2 f fd ["bag", "way", "kind", "rows"] (spOdd K) := by
  refine F.ok scOd (fun vs H Q E h => ?_) (fun cdv A outer s H vs Q E hr h => ?_)
  · obtain ⟨b, c, ns, ct, k, way, a, ds, rfl, _⟩ := h
    rfl
  · obtain ⟨b, c, ns, ct, k, way, a, ds, rfl, B, c0, c1, hns, da, kk⟩ := h
    have hu := hu_of hr
    have q1 : ∀ {pos : Pos}, PE (cxOf CX0 P w K mg base nOd "_law_odd_ring" (defScope s__law_odd_ring) f cdv A outer s H E).nox (.Name "one" pos) (tQ (ΦO K ds) K oneD) := q_var' 4 fun σ H h => h.1
    have q2 : ∀ {pos : Pos}, PE (cxOf CX0 P w K mg base nOd "_law_odd_ring" (defScope s__law_odd_ring) f cdv A outer s H E).nox (.Name "two" pos) (tQ (ΦO K ds) K twoD) := q_var' 5 fun σ H h => h.2.1
    obtain ⟨a', xs, ea, sq, dp⟩ := dp_tup da
    cases ea
    have phi : ∀ {H1 : Hp} {Ap : Addr} {es : List Rg.D} {v1 v2 : V} {x6 : Option V}, OddS K k way H H1 Ap es v1 v2 → ΦO K ds [some (.ref b), some (.str way), some (.str k), some (.ref a), some v1, some v2, x6] H1 := fun S => ⟨⟨_, rfl, S.d1⟩, ⟨_, rfl, S.d2⟩, a, xs, rfl, S.sm.sqT sq, dp.keep S.sm⟩
    -- the draw
    obtain ⟨tZ, pZ, qZ⟩ : ∃ tZ, PSs (cxOf CX0 P w K mg base nOd "_law_odd_ring" (defScope s__law_odd_ring) f cdv A outer s H E).nox ((defBody s__law_odd_ring).drop 7) tZ ∧
        ∀ (D : Ends) (v1 v2 : V) (Ap : Addr) (es : List Rg.D) (H1 : Hp), D.rt = Q → OddS K k way H H1 Ap es v1 v2 → 0 < es.length → es.length ≤ 100 →
          tZ D [some (.ref b), some (.str way), some (.str k), some (.ref a), some v1, some v2, some (.ref Ap)] H1 := by
      refine ⟨_, pss_one (ps_ret (pe_ix ix_list (pv 6) (pe_call GD hr (by rfl) gD kD bD .nil pass0 (pa_cons (pv 0) (pa_cons (pe_callB call_len_seq (by rfl) TG.len PySem.boot_len (pa_cons (pv 6) pa_nil)) pa_nil))) (fun _ _ => rfl))), ?_⟩
      intro D v1 v2 Ap es H1 hD S l0 l1
      obtain ⟨vs, hv, dv⟩ := S.pl
      have dl := dv.all.length
      have B1 := B.keep S.sm
      refine ⟨_, rfl, _, rfl, _, rfl, Ap, vs, rfl, .inl (SqL.of hv), b, c, _, ns, ct, rfl, B1, by omega, by omega, by omega, Int.lt_of_le_of_lt (show ((vs.length : Nat) : Int) ≤ 100 by omega) (by decide), hns, fun r H2 hr1 hr2 B2 s2 => ?_⟩
      have hv2 := lst_but B1 s2 hv
      obtain ⟨v, d, g1, g2, g3⟩ := DqL.at_ (dqL_bag B1 s2 (DqL.keep same_del dv)) (i := r.toNat) (by omega)
      have hv0 : atI vs r = some v := by
        have := atI_nat g1
        rw [Int.toNat_of_nonneg hr1] at this
        exact this
      refine ⟨Ap, vs, r, v, rfl, rfl, SqL.of hv2, hv0, ?_⟩
      rw [hD]
      exact kk v d H2 B2 ((SameBut.of S.sm).trans s2) g3 (S.ok d (List.mem_of_getElem? g2))
    obtain ⟨tY, pY, qY⟩ : ∃ tY, PSs (cxOf CX0 P w K mg base nOd "_law_odd_ring" (defScope s__law_odd_ring) f cdv A outer s H E).nox ((defBody s__law_odd_ring).drop 6) tY ∧
        ∀ (D : Ends) (v1 v2 : V) (Ap : Addr) (es : List Rg.D) (H1 : Hp), D.rt = Q → OddS K k way H H1 Ap es v1 v2 → 0 < es.length → es.length ≤ 50 →
          tY D [some (.ref b), some (.str way), some (.str k), some (.ref a), some v1, some v2, some (.ref Ap)] H1 := by
      refine ⟨_, pss_cons (ps_if (pt_cmpR op_in_seq (pv 2) (pe_lst (pa_cons pe_str (pa_cons pe_str pa_nil))) (by rfl)) (pss_one (ps_set (i := 6) scOd.nd rfl (Or.inl rfl) (pe_op op_cat (pv 6) (q_list (Φ := ΦO K ds) (ds := odd6) (q_cons stbO (q_tup (q_cons stbO q1 (q_cons stbO q_non q_nil))) (q_cons stbO (q_tup (q_cons stbO q_non q_nil)) (q_cons stbO (q_tup (q_cons stbO q1 (q_cons stbO q2 (q_cons stbO q_non q_nil)))) q_nil))))))) pss_nil) pZ, ?_⟩
      intro D v1 v2 Ap es H1 hD S l0 l1
      refine ⟨_, rfl, (by show 2 ≤ sizeLine; decide), fun l hl => ?_⟩
      have s2 := @same_upd _ l (.lst [V.str "put", V.str "set"]) hl
      refine ⟨l, _, rfl, .inl (SqL.of upd_same), rfl, by kernel_rfl, _, rfl, ?_⟩
      generalize upd H1 l (.lst [V.str "put", V.str "set"]) = H2 at s2 ⊢
      have S2 := S.same s2
      show if putSet k = true then _ else _
      cases hp : putSet k with
      | false => exact iteF (qZ _ v1 v2 Ap es H2 hD S2 l0 (by omega))
      | true =>
        obtain ⟨vs, hv, dv⟩ := S2.pl
        refine iteT ⟨_, rfl, phi S2, fun A2 vs2 H3 _ s3 h3 d3 => ⟨Ap, A2, vs, vs2, rfl, rfl, s3 _ _ hv, h3, ?_, fun p hp3 => ?_⟩⟩
        · have e1 := dv.all.length
          have e2 := d3.all.length
          rw [sizeLine_eq, e1, e2]
          show _ + 3 ≤ _
          omega
        · exact qZ _ v1 v2 p (es ++ odd6) _ hD (S2.app hv s3 d3 (odd6_ok hp) hp3) (by rw [List.length_append]; omega) (by rw [List.length_append]; show _ + 3 ≤ _; omega)
    obtain ⟨tX, pX, qX⟩ : ∃ tX, PSs (cxOf CX0 P w K mg base nOd "_law_odd_ring" (defScope s__law_odd_ring) f cdv A outer s H E).nox ((defBody s__law_odd_ring).drop 5) tX ∧
        ∀ (D : Ends) (v1 v2 : V) (Ap : Addr) (es : List Rg.D) (H1 : Hp), D.rt = Q → OddS K k way H H1 Ap es v1 v2 → H Ap = none → 0 < es.length → es.length ≤ 40 →
          tX D [some (.ref b), some (.str way), some (.str k), some (.ref a), some v1, some v2, some (.ref Ap)] H1 := by
      refine ⟨_, pss_cons (ps_if (pt_cmpR op_eq (pv 1) pe_str (nomark _)) (pss_one (ps_expr (pe_bm PySem.F.plainAttrs_list PySem.F.slot_list_append PySem.F.type_list_append mt_append (pv 6) (pa_cons (q_tup (Φ := ΦO K ds) (q_cons stbO q1 (q_cons stbO q2 (q_cons stbO (q_tup (q_cons stbO q_int (q_cons stbO q_int (q_cons stbO q_int q_nil)))) (q_cons stbO q_non (q_cons stbO q_non q_nil)))))) pa_nil)))) pss_nil) pY, ?_⟩
      intro D v1 v2 Ap es H1 hD S ha l0 l1
      refine ⟨_, rfl, rfl, _, rfl, ?_⟩
      by_cases hw : way = "sorted"
      · obtain ⟨vs, hv, dv⟩ := S.pl
        refine ifT (decide_eq_true (congrArg V.str hw)) ⟨_, rfl, .inl ⟨rfl, _, SqL.of hv⟩, phi S, fun v H2 s2 d2 => ⟨Ap, vs, v, rfl, rfl, s2 _ _ hv, ?_, ?_⟩⟩
        · have e1 := dv.all.length
          rw [sizeLine_eq, e1]; omega
        · exact qY _ v1 v2 Ap (es ++ [odd5]) _ hD ((S.same s2).push ha (s2 _ _ hv) d2 (by decide) (odd5_ok hw)) (by rw [List.length_append]; omega) (by rw [List.length_append]; show _ + 1 ≤ _; omega)
      · exact ifF (decide_eq_false fun z => hw (V.str.inj z)) (qY _ v1 v2 Ap es H1 hD S l0 (by omega))
    obtain ⟨tW, pW, qW⟩ : ∃ tW, PSs (cxOf CX0 P w K mg base nOd "_law_odd_ring" (defScope s__law_odd_ring) f cdv A outer s H E).nox ((defBody s__law_odd_ring).drop 4) tW ∧
        ∀ (D : Ends) (v1 v2 : V) (Ap : Addr) (es : List Rg.D) (H1 : Hp), D.rt = Q → OddS K k way H H1 Ap es v1 v2 → H Ap = none → 0 < es.length → es.length ≤ 30 →
          tW D [some (.ref b), some (.str way), some (.str k), some (.ref a), some v1, some v2, some (.ref Ap)] H1 := by
      refine ⟨_, pss_cons (ps_if (pt_cmpR op_ne (pv 1) pe_str (nomark _)) (pss_one (ps_expr (pe_bm PySem.F.plainAttrs_list PySem.F.slot_list_append PySem.F.type_list_append mt_append (pv 6) (pa_cons (q_tup (Φ := ΦO K ds) (q_cons stbO q_str (q_cons stbO q_non (q_cons stbO q_non q_nil)))) pa_nil)))) pss_nil) pX, ?_⟩
      intro D v1 v2 Ap es H1 hD S ha l0 l1
      refine ⟨_, rfl, rfl, _, rfl, ?_⟩
      by_cases hw : way = "stones"
      · exact ifF (by rw [decide_eq_true (congrArg V.str hw)]; rfl) (qX _ v1 v2 Ap es H1 hD S ha l0 (by omega))
      · obtain ⟨vs, hv, dv⟩ := S.pl
        refine ifT (by rw [decide_eq_false fun z => hw (V.str.inj z)]; rfl) ⟨_, rfl, .inl ⟨rfl, _, SqL.of hv⟩, phi S, fun v H2 s2 d2 => ⟨Ap, vs, v, rfl, rfl, s2 _ _ hv, ?_, ?_⟩⟩
        · have e1 := dv.all.length
          rw [sizeLine_eq, e1]; omega
        · exact qX _ v1 v2 Ap (es ++ [odd4]) _ hD ((S.same s2).push ha (s2 _ _ hv) d2 (by decide) (odd4_ok hw)) ha (by rw [List.length_append]; omega) (by rw [List.length_append]; show _ + 1 ≤ _; omega)
    refine ⟨_, pss_cons (ps_asg (pe_tupF (q_cons (Φ := ΦT) stbT (q_tup (q_cons stbT q_int (q_cons stbT q_int (q_cons stbT q_int q_nil)))) (q_cons stbT (q_tup (q_cons stbT q_int (q_cons stbT q_int (q_cons stbT q_int q_nil)))) q_nil))) (pg_tup rfl (pgs_cons (pg_name (i := 4) scOd.nd rfl (Or.inl rfl)) (pgs_cons (pg_name (i := 5) scOd.nd rfl (Or.inl rfl)) pgs_nil))))
      (pss_cons (ps_set (i := 6) scOd.nd rfl (Or.inl rfl) (q_list (Φ := ΦO K ds) (ds := odd1 ds) (q_cons stbO ((pe_callTy call_list_of (by rfl) TG.lst (by decide +kernel) (pa_cons (pv 3) pa_nil)).weak (t' := tQ (ΦO K ds) K (.list ds)) fun σ H1 Q1 h => by
            obtain ⟨⟨_, _, a1, xs1, e1, sq1, dp1⟩, h2⟩ := h
            exact ⟨_, e1, a1, xs1, rfl, .inr sq1, fun l hl => h2 _ _ (same_upd hl) ⟨.lst (SqL.of upd_same) (dp1.keep (same_upd hl)), fun a2 _ t => nomatch t⟩⟩)
          (q_cons stbO (q_tup q_nil) (q_cons stbO q_str (q_cons stbO q_int (q_cons stbO q_non (q_cons stbO (q_tup (q_cons stbO q1 q_nil)) (q_cons stbO (q_tup (q_cons stbO q1 (q_cons stbO (q_tup (q_cons stbO q_int (q_cons stbO q_int (q_cons stbO q_int q_nil)))) (q_cons stbO q_non q_nil)))) (q_cons stbO (q_tup (q_cons stbO q1 (q_cons stbO q_str (q_cons stbO q_non q_nil)))) (q_cons stbO (q_tup (q_cons stbO q1 (q_cons stbO q_int (q_cons stbO q_non q_nil)))) q_nil))))))))) (by show 9 ≤ 1000; decide)))
      (pss_cons (ps_set (i := 6) scOd.nd rfl (Or.inl rfl) (pe_op op_cat (pv 6) (q_list (Φ := ΦO K ds) (ds := odd2) (q_cons stbO (q_tup (q_cons stbO (q_tup (q_cons stbO q_int (q_cons stbO q_int q_nil))) (q_cons stbO q_non q_nil))) (q_cons stbO (q_tup (q_cons stbO (q_tup (q_cons stbO q_int (q_cons stbO q_neg (q_cons stbO q_int q_nil)))) (q_cons stbO q_non q_nil)))
          (q_cons stbO (q_tup (q_cons stbO (q_tup (q_cons stbO q_int (q_cons stbO q_int (q_cons stbO q_bl q_nil)))) (q_cons stbO q_non q_nil))) (q_cons stbO (q_tup (q_cons stbO (q_lst (q_cons stbO q_int (q_cons stbO q_int (q_cons stbO q_int q_nil)))) (q_cons stbO q_non q_nil))) (q_cons stbO (q_tup (q_cons stbO q1 (q_cons stbO q2 q_nil))) (q_cons stbO (q_tup (q_cons stbO q_str q_nil)) q_nil)))))))))
      (pss_cons (ps_set (i := 6) scOd.nd rfl (Or.inl rfl) (pe_op op_cat (pv 6) (q_list (Φ := ΦO K ds) (ds := odd3) (q_cons stbO (q_tup (q_cons stbO q_non (q_cons stbO q1 (q_cons stbO q_non q_nil)))) (q_cons stbO (q_tup (q_cons stbO q_non (q_cons stbO q_non (q_cons stbO (q_tup (q_cons stbO q_int (q_cons stbO q_int (q_cons stbO q_int q_nil)))) (q_cons stbO q_non q_nil)))))
          (q_cons stbO (q_tup (q_cons stbO q_non (q_cons stbO (q_tup (q_cons stbO q_int (q_cons stbO q_int (q_cons stbO q_int q_nil)))) (q_cons stbO q_non (q_cons stbO q_non q_nil))))) q_nil))))))
      pW))), ?_⟩
    refine ⟨trivial, fun vs H1 s1 d1 => ?_⟩
    cases d1 with
    | cons e1 d1 => cases d1 with
      | cons e2 d1 =>
        cases d1
        rename_i v1 v2
        refine ⟨(by show 2 ≤ sizeLine; decide), fun t o ht oc od => ⟨t, _, rfl, .inl (.inr ⟨o, upd_same⟩), rfl, _, _, rfl, _, _, rfl, rfl, ?_⟩⟩
        have s2 := @same_upd _ t (.frz o (.tup [v1, v2])) ht
        have e1' := e1.keep s2
        have e2' := e2.keep s2
        have s12 := s1.trans s2
        generalize upd H1 t (.frz o (.tup [v1, v2])) = H2 at s2 e1' e2' s12 ⊢
        have nonew : ∀ {H' : Hp} {p : Addr}, Same H H' → H' p = none → H p = none := fun {H' p} s hp => by
          cases z : H p with
          | none => rfl
          | some o => rw [s _ _ z] at hp; cases hp
        refine ⟨⟨⟨_, rfl, e1'⟩, ⟨_, rfl, e2'⟩, a, xs, rfl, s12.sqT sq, dp.keep s12⟩, fun A1 vs1 H3 ha1 s3 h3 d3 => ?_⟩
        have S3 : OddS K k way H H3 A1 (odd1 ds) v1 v2 := ⟨s12.trans s3, ⟨vs1, h3, d3⟩, e1'.keep s3, e2'.keep s3, odd1_ok⟩
        refine ⟨_, rfl, phi S3, fun A2 vs2 H4 ha2 s4 h4 d4 => ⟨A1, A2, vs1, vs2, rfl, rfl, s4 _ _ h3, h4, ?_, fun p hp => ?_⟩⟩
        · have f1 := d3.all.length
          have f2 := d4.all.length
          rw [sizeLine_eq, f1, f2]
          show 9 + 6 ≤ _
          decide
        have S5 := S3.app h3 s4 d4 odd2_ok hp
        refine ⟨_, rfl, phi S5, fun A3 vs3 H6 ha3 s6 h6 d6 => ⟨p, A3, _, vs3, rfl, rfl, s6 _ _ upd_same, h6, ?_, fun p2 hp2 => ?_⟩⟩
        · have f1 := d3.all.length
          have f2 := d4.all.length
          have f3 := d6.all.length
          rw [List.length_append, sizeLine_eq, f1, f2, f3]
          show 9 + 6 + 3 ≤ _
          decide
        have S7 := S5.app upd_same s6 d6 odd3_ok hp2
        exact qW _ v1 v2 p2 _ _ rfl S7 (nonew (S5.sm.trans s6) hp2) (by show 0 < 18; decide) (by show 18 ≤ 30; decide)
end
end K40

namespace K40
open PySem PySem.Spec PyProof.Rows L2 Rg PySem.RingX
open Fm hiding D
/-! ## the three texts -/
def idleL : List Str := ["", "out = none", "quit"]
def setOut : LineM := ⟨"set", ["out", "none"], [], 0, 0, 0, 0, 2, 0⟩
def quitL : LineM := ⟨"quit", [], [], 0, 0, 0, 0, 2, 0⟩
def quietB (k : Str) (Ls : List LineM) : Bool := match waysM 1000 Ls [([], 1)] [] with
  | some ways => ways.all fun wy => (runW k Ls (wy.filter (walkB Ls)).length wy (0, false) && (wy.all (fun n => decide (1 ≤ n) && decide (n ≤ Ls.length)) && decide (wy.length ≤ 1000)))
  | none => false
theorem quiet_of {k x : Str} {ts : List Str} {Ls : List LineM} (h : quietB k Ls = true) (hb : barsM k x ts = []) : QuietM k x ts Ls := by
  unfold quietB at h
  refine ⟨hb, ?_⟩
  cases w : waysM 1000 Ls [([], 1)] [] with
  | none => rw [w] at h; cases h
  | some ways =>
    rw [w] at h
    refine ⟨1000, ways, by decide, w, fun wy hw => ?_⟩
    have g := List.all_eq_true.mp h wy hw
    simp only [Bool.and_eq_true, decide_eq_true_eq, List.all_eq_true] at g
    obtain ⟨g1, g2, g3⟩ := g
    exact ⟨⟨g1, fun n hn => g2 n hn⟩, by omega⟩
theorem kind_five {k : Str} (h : kindM k = true) : k = "find" ∨ k = "put" ∨ k = "set" ∨ k = "take" ∨ k = "drop" := by
  unfold kindM inV at h
  simp only [kindsL, List.map_cons, List.map_nil, List.any_cons, List.any_nil, Bool.or_false, Bool.or_eq_true] at h
  have e : ∀ a : Str, eqV (.str a) (.str k) = true → k = a := fun a h => (eq_of_beq (show (a == k) = true from h)).symm
  rcases h with h | h | h | h | h
  · exact .inl (e _ h)
  · exact .inr (.inl (e _ h))
  · exact .inr (.inr (.inl (e _ h)))
  · exact .inr (.inr (.inr (.inl (e _ h))))
  · exact .inr (.inr (.inr (.inr (e _ h))))
/-- a text that is made, with its lines -/
def MadeT (T : Str) (Ls : List LineM) : Prop := Asc T ∧ T.length ≤ 100 ∧ (linesOfM T).length ≤ 1 ∧ programM 10 (linesOfM T) = some (.ok Ls) ∧ ifsM Ls ≤ 7 ∧ (∀ k x, kindM k = true → wayM x = true → QuietM k x (linesOfM T) Ls) ∧ Idle Ls
theorem quiet_all {T : Str} {Ls : List LineM} (h : (kindsL.all fun k => quietB k Ls && (waysL.all fun x => decide (barsM k x (linesOfM T) = []))) = true) : ∀ k x, kindM k = true → wayM x = true → QuietM k x (linesOfM T) Ls := fun k x hk hx => by
  have km : k ∈ kindsL := by rcases kind_five hk with e | e | e | e | e <;> rw [e] <;> decide +kernel
  have xm : x ∈ waysL := by rcases way_three hx with e | e | e <;> rw [e] <;> decide +kernel
  obtain ⟨h1, h2⟩ := Bool.and_eq_true_iff.mp (List.all_eq_true.mp h k km)
  exact quiet_of h1 (of_decide_eq_true (List.all_eq_true.mp h2 x xm))
theorem made0 : MadeT "" [] := ⟨⟨by decide +kernel, by decide +kernel⟩, by decide +kernel, by decide +kernel, by kernel_rfl, by decide, quiet_all (by decide +kernel), .inl rfl⟩
theorem made1 : MadeT "out = none" [setOut] := ⟨⟨by decide +kernel, by decide +kernel⟩, by decide +kernel, by decide +kernel, by kernel_rfl, by decide +kernel, quiet_all (by decide +kernel), .inr ⟨setOut, rfl, rfl, .inl ⟨rfl, rfl⟩⟩⟩
theorem made2 : MadeT "quit" [quitL] := ⟨⟨by decide +kernel, by decide +kernel⟩, by decide +kernel, by decide +kernel, by kernel_rfl, by decide +kernel, quiet_all (by decide +kernel), .inr ⟨quitL, rfl, rfl, .inr rfl⟩⟩
theorem codeC_made {K : PySem.W.Frag} {CK CY CL CM : Addr} {k x T : Str} {Ls : List LineM} {H : Hp} {E : XK} {fin : Str → Str → List LineM → Prop} (hk : kindM k = true) (hx : wayM x = true) (M : MadeT T Ls) (f : fin k x Ls) : CodeC K CK CY CL CM (.str k) (.str x) T H E fin := by
  obtain ⟨m1, m2, m3, m4, m5, m6, m7⟩ := M
  exact .inr ⟨k, rfl, hk, .inr ⟨x, rfl, hx, m1, by omega, by omega, by omega, .inr ⟨by omega, 10, _, m4, .inr ⟨Ls, rfl, .inr ⟨m5, m6 k x hk hx, f⟩⟩⟩⟩⟩
theorem codeP_bag {K : PySem.W.Frag} {C CC : Addr} {H H' : Hp} {b c p : Addr} {ns : List Int} {ct : Int} {k x T : Str} {Ls : List LineM} (B : BagAt H b c ns ct) (s : SameBut b H H') (cp : CodeP K C CC H p k x T Ls) : CodeP K C CC H' p k x T Ls := by
  obtain ⟨kvs, hb⟩ := B.dk
  obtain ⟨dx, tt, tp, ps, h1, h2, h3⟩ := cp
  refine ⟨dx, tt, tp, ps, s _ _ (ne_of h1 hb (fun z => nomatch z)) h1, sqT_bag B s h2, h3.len, fun i q l g1 g2 => ?_, h3.nd⟩
  obtain ⟨dq, vw, vt, f1, f2, f3⟩ := h3.each i q l g1 g2
  exact ⟨dq, vw, vt, s _ _ (ne_of f1 hb (fun z => nomatch z)) f1, dp_bag B s f2, dp_bag B s f3⟩
end K40

namespace K40
open PySem PySem.Spec PyProof.Rows L2 Rg PySem.RingX
open Fm hiding D
theorem dp_plain {K : PySem.W.Frag} {H : Hp} {v : V} {d : D} (h : Dp K H v d) : flatB v = true ∨ ∃ c, v = .ref c := by
  cases h with
  | non => exact .inl rfl
  | bl b => exact .inl rfl
  | int i => exact .inl rfl
  | str x => exact .inl rfl
  | lst _ _ => exact .inr ⟨_, rfl⟩
  | tup _ _ => exact .inr ⟨_, rfl⟩
theorem plain2 {s : Str} {v : V} (h : flatB v = true ∨ ∃ c, v = .ref c) : ∀ w ∈ [V.str s, v], flatB w = true ∨ ∃ c, w = .ref c := fun w hw => by
  simp only [List.mem_cons, List.not_mem_nil, or_false] at hw
  rcases hw with e | e
  · rw [e]; exact .inl rfl
  · rw [e]; exact h
/-- what the law knows -/
structure LW (K : PySem.W.Frag) (C CC : Addr) (H : Hp) (b c : Addr) (ns : List Int) (ct : Int) (cd : Addr) (k way T : Str) (Ls : List LineM) (a : Addr) (ds : List D) : Prop where
  bag : BagAt H b c ns ct
  cp : CodeP K C CC H cd k way T Ls
  dr : Dp K H (.ref a) (.tuple ds)
  pt : PlT K H a
theorem LW.same {K : PySem.W.Frag} {C CC : Addr} {H H' : Hp} {b c : Addr} {ns : List Int} {ct : Int} {cd : Addr} {k way T : Str} {Ls : List LineM} {a : Addr} {ds : List D} (L : LW K C CC H b c ns ct cd k way T Ls a ds) (s : Same H H') : LW K C CC H' b c ns ct cd k way T Ls a ds := ⟨L.bag.keep s, L.cp.same s, L.dr.keep s, L.pt.keep s⟩
theorem LW.but {K : PySem.W.Frag} {C CC : Addr} {H H' : Hp} {b c : Addr} {ns : List Int} {ct ct' : Int} {cd : Addr} {k way T : Str} {Ls : List LineM} {a : Addr} {ds : List D} (L : LW K C CC H b c ns ct cd k way T Ls a ds) (B : BagAt H' b c ns ct') (s : SameBut b H H') : LW K C CC H' b c ns ct' cd k way T Ls a ds := ⟨B, codeP_bag L.bag s L.cp, dp_bag L.bag s L.dr, plT_bag L.bag s L.pt⟩
section
variable {P : Program} {w : World} {K : PySem.W.Frag} {mg : Str → Option Value} {base : Heap}
def spLaw (K : PySem.W.Frag) : Sp := fun vs H Q _ => ∃ (a : Addr) (ns : List Int), vs = [.ref a] ∧ SqL K H a (ns.map V.int) ∧ ns.length ≤ 63 ∧ ∀ H', Q (.bl true) H'
def nLaw : List Str := ["script", "bag", "kind", "way", "code", "spare", "ring", "thing", "wrong", "k", "odd", "done"]
theorem scLaw : FnScope nLaw ["script"] (defScope s_law) := ⟨rfl, rfl, rfl, by decide +kernel, rfl, by decide +kernel, by decide +kernel⟩
theorem ok_law {f fB fD fR fT fW fO fI fTd C CC CK CY CL CM CR CH CP : Addr} {fd dB dD dR dT dW dO dI dTd : FuncData} (F : Fun K "law" "law" s_law f fd) (TG : GT mg)
    (TT : ClsT K mg CC "Code" codeNames) (MC : Mk K CC fI) (GC : FnOk P w K mg base (L2.CX P w) 10 fI dI ["self", "kind", "way", "text"] (spCodeI K C CC CK CY CL CM)) (bC : L2.Binds K dI ["self", "kind", "way", "text"] []) (TP : ClsT K mg CP "Play" playNames)
    (GBg : FnOk P w K mg base CX0 1 fB dB ["script"] (spBag K)) (gB : mg "_law_bag" = some (.ref fB)) (kB : PySem.W.keepIn K (.ref fB) = true) (bB : L2.Binds K dB ["script"] [])
    (GD : FnOk P w K mg base CX0 1 fD dD ["bag", "limit"] spDraw) (gD : mg "_law_draw" = some (.ref fD)) (kD : PySem.W.keepIn K (.ref fD) = true) (bD : L2.Binds K dD ["bag", "limit"] [])
    (GR : FnOk P w K mg base CX0 2 fR dR ["bag", "way", "m", "spare"] (spLRing K)) (gR : mg "_law_ring" = some (.ref fR)) (kR : PySem.W.keepIn K (.ref fR) = true) (bR : L2.Binds K dR ["bag", "way", "m", "spare"] [])
    (GT_ : FnOk P w K mg base CX0 2 fT dT ["bag", "kind", "ring"] (spThing K)) (gT : mg "_law_thing" = some (.ref fT)) (kT : PySem.W.keepIn K (.ref fT) = true) (bT : L2.Binds K dT ["bag", "kind", "ring"] [])
    (GW : FnOk P w K mg base CX0 2 fW dW ["bag", "kind", "ring"] (spBad K)) (gW : mg "_law_bad_handed" = some (.ref fW)) (kW : PySem.W.keepIn K (.ref fW) = true) (bW : L2.Binds K dW ["bag", "kind", "ring"] [])
    (GO : FnOk P w K mg base CX0 2 fO dO ["bag", "way", "kind", "rows"] (spOdd K)) (gO : mg "_law_odd_ring" = some (.ref fO)) (kO : PySem.W.keepIn K (.ref fO) = true) (bO : L2.Binds K dO ["bag", "way", "kind", "rows"] [])
    (GTd : FnOk P w K mg base CX0 12 fTd dTd ["code", "ring", "thing"] (spTold K C CC)) (gTd : mg "_law_told" = some (.ref fTd)) (kTd : PySem.W.keepIn K (.ref fTd) = true) (bTd : L2.Binds K dTd ["code", "ring", "thing"] [])
    (DP : Def P w K mg base (L2.CX P w) "play" 11 ["code", "ring", "handed"] (spPlay K C CC CR CH CP)) :
    FnOk P w K mg base CX0 13 f fd ["script"] (spLaw K) := by
  obtain ⟨fPy, dPy, GPy, gPy, kPy, bPy⟩ := DP
  refine F.ok scLaw (fun vs H Q E h => ?_) (fun cdv A outer s H vs Q E hr h => ?_)
  · obtain ⟨a, ns, rfl, _⟩ := h
    rfl
  · obtain ⟨a, ns, rfl, sa, hns, kQ⟩ := h
    have hr11 : Room 11 _ := hr.mono (by decide)
    have hr12 : Room 12 _ := hr.mono (by decide)
    have hr2 : Room 2 _ := hr.mono (by decide)
    have hr1 : Room 1 _ := hr.mono (by decide)
    have hu : (A.deeper (envOfC "law" (defScope s_law) s.heap.objs.size f cdv)).units < cLine := by have := hr.un; omega
    -- the end
    obtain ⟨tE, pE, qE⟩ : ∃ tE, PSs (cxOf CX0 P w K mg base nLaw "law" (defScope s_law) f cdv A outer s H E).nox ((defBody s_law).drop 7) tE ∧
        ∀ (D : Ends) (b c : Addr) (ns : List Int) (ct : Int) (cd : Addr) (k way T : Str) (Ls : List LineM) (ra : Addr) (ds : List Rg.D) (u wv : V) (e we : Rg.D) (x0 x5 x9 x10 : Option V) (H1 : Hp), D.rt = Q → LW K C CC H1 b c ns ct cd k way T Ls ra ds → Idle Ls → wayM way = true → PlayB k way (.tuple ds) → ds.length ≤ 60 → Dp K H1 u e → Dp K H1 wv we → ((u = .non ∧ e = .none) ∨ HandB k ds e = true) → HandB k ds we = false →
          tE D [x0, some (.ref b), some (.str k), some (.str way), some (.ref cd), x5, some (.ref ra), some u, some wv, x9, x10, none] H1 := by
      refine ⟨_, pss_cons (ps_if (pt_cmpR (op_neS hu) (pe_call GTd hr12 (by rfl) gTd kTd bTd .nil pass0 (pa_cons (pv 4) (pa_cons (pv 6) (pa_cons (pv 8) pa_nil)))) (pe_tup (pa_cons pe_str (pa_cons (pv 8) pa_nil))) (nomark _)) pss_no pss_nil)
        (pss_cons (ps_if (pt_cmpR op_isN (pv 7) pe_non (nomark _)) (pss_one (ps_ret pe_bl)) pss_nil)
        (pss_cons (ps_set (i := 11) scLaw.nd rfl (Or.inl rfl) (pe_call (E := fun _ _ _ => False) GPy hr11 (by rfl) gPy kPy bPy .nil (passes_call takes0 (fun _ _ _ _ z => z)) (pa_cons (pv 4) (pa_cons (pv 6) (pa_cons (pv 7) pa_nil)))))
        (pss_one (ps_ret (pe_and (pe_cmpR op_eq (pe_call GTd hr12 (by rfl) gTd kTd bTd .nil pass0 (pa_cons (pv 4) (pa_cons (pv 6) (pa_cons (pv 7) pa_nil)))) pe_str (nomark _)) (pe_and (pe_cmpR (op_eqS hu) (pe_fld (pv 11) rfl) (pv 6) (nomark _)) (pe_one (pe_cmpR op_eq (pe_fld (pv 11) rfl) pe_int (nomark _))))))))), ?_⟩
      intro D b c ns ct cd k way T Ls ra ds u wv e we x0 x5 x9 x10 H1 hD L idle wx pb hlen du dw ut wf
      have sD : Short (.tuple ds) := fun ds' e1 => by cases e1; omega
      have plt : ∀ {H' : Hp}, LW K C CC H' b c ns ct cd k way T Ls ra ds → ∀ a, V.ref ra = .ref a → putSet k = true → ringD (.tuple ds) = true → PlT K H' a := fun L a e _ _ => by cases e; exact L.pt
      refine ⟨_, rfl, _, rfl, _, rfl, cd, k, way, T, Ls, .ref ra, wv, .tuple ds, we, rfl, L.cp, wx, idle, L.dr, sD, dw, plt L, .inr ⟨pb, ds, rfl, hlen, .inl ⟨wf, fun p H2 hp s2 h2 => ?_⟩⟩⟩
      refine ⟨_, rfl, (by show 2 ≤ sizeLine; decide), fun q hq => ?_⟩
      have s3 := @same_upd _ q (.tup [V.str "handed", wv]) hq
      refine ⟨p, q, _, rfl, rfl, SqT.of (s3 _ _ h2), SqT.of upd_same, plain2 (dp_plain dw), _, rfl, iteF ?_⟩
      generalize upd H2 q (.tup [V.str "handed", wv]) = H3 at s3 ⊢
      have s23 := s2.trans s3
      have L3 := L.same s23
      refine ⟨_, rfl, rfl, _, rfl, ?_⟩
      rcases ut with ⟨rfl, rfl⟩ | ht
      · exact iteT (by rw [hD]; exact kQ _)
      · have un : decide (u = V.non) = false := by
          refine decide_eq_false fun z => ?_
          subst z
          cases du
          unfold HandB at ht
          split at ht
          · cases ht
          · split at ht <;> cases ht
        refine ifF un ?_
        have du3 := du.keep s23
        refine ⟨_, rfl, _, rfl, _, rfl, cd, k, way, T, Ls, .ref ra, u, .tuple ds, e, rfl, L3.cp, wx, idle, L3.dr, sD, du3, plt L3, .inr ⟨pb, ds, rfl, hlen, .inr ⟨ht, fun a' xs q2 dq l a0 a1 a2 a3 H4 ea sq dpx s4 h4 h5 => ?_⟩⟩⟩
        cases ea
        have L4 := L3.same s4
        refine ⟨_, rfl, _, rfl, _, rfl, cd, k, way, T, Ls, .ref ra, u, .tuple ds, e, rfl, L4.cp, wx, idle, L4.dr, sD, du3.keep s4, plt L4, .inr ⟨pb, ds, rfl, hlen, .inr ⟨ht, fun H5 s5 => ?_⟩⟩⟩
        refine ⟨rfl, _, rfl, iteT ?_⟩
        refine ⟨_, rfl, q2, CP, dq, _, _, rfl, s5 _ _ h4, TP.cl, TP.no _ (by simp [playNames]), pl_left .., _, rfl, l, ra, xs, rfl, rfl, SqT.of (s5 _ _ h5), (s4.trans s5).sqT sq, ?_, _, rfl, iteT ?_⟩
        · intro x hx
          obtain ⟨d, _, hd⟩ := dpAll_mem dpx hx
          exact dp_plain hd
        · refine ⟨_, rfl, q2, CP, dq, _, _, rfl, s5 _ _ h4, TP.cl, TP.no _ (by simp [playNames]), pl_looks .., rfl, ?_⟩
          rw [hD]
          exact kQ _
    -- three values that are no rings
    obtain ⟨tF, pF, qF⟩ : ∃ tF, PSs (cxOf CX0 P w K mg base nLaw "law" (defScope s_law) f cdv A outer s H E).nox ((defBody s_law).drop 6) tF ∧
        ∀ (D : Ends) (b c : Addr) (ns : List Int) (ct : Int) (cd : Addr) (k way T : Str) (Ls : List LineM) (ra : Addr) (ds : List Rg.D) (u wv : V) (e we : Rg.D) (x0 x5 : Option V) (H1 : Hp), D.rt = Q → 0 ≤ ct → ct < 400000 → ns.length < 1000 → LW K C CC H1 b c ns ct cd k way T Ls ra ds → Idle Ls → wayM way = true → PlayB k way (.tuple ds) → ds.length ≤ 60 → Dp K H1 u e → Dp K H1 wv we → ((u = .non ∧ e = .none) ∨ HandB k ds e = true) → HandB k ds we = false →
          tF D [x0, some (.ref b), some (.str k), some (.str way), some (.ref cd), x5, some (.ref ra), some u, some wv, none, none, none] H1 := by
      refine ⟨_, pss_cons (ps_for PassesOwn.never rfl (pi_range1 (by rfl) TG.range (pa_cons pe_int pa_nil)) (pg_name (i := 9) scLaw.nd rfl (Or.inl rfl))
          (pss_cons (ps_set (i := 10) scLaw.nd rfl (Or.inl rfl) (pe_call GO hr2 (by rfl) gO kO bO .nil pass0 (pa_cons (pv 1) (pa_cons (pv 3) (pa_cons (pv 2) (pa_cons (pv 6) pa_nil))))))
          (pss_one (ps_if (PW.pt (pw_or (pt_cmpR (op_neS hu) (pe_call GTd hr12 (by rfl) gTd kTd bTd .nil pass0 (pa_cons (pv 4) (pa_cons (pv 10) (pa_cons (pv 7) pa_nil)))) (pe_tup (pa_cons pe_str (pa_cons (pv 10) pa_nil))) (nomark _)) (pw_or1 (pt_cmpR (op_neS hu) (pe_call GTd hr12 (by rfl) gTd kTd bTd .nil pass0 (pa_cons (pv 4) (pa_cons (pv 10) (pa_cons (pv 8) pa_nil)))) (pe_tup (pa_cons pe_str (pa_cons (pv 10) pa_nil))) (nomark _))))) pss_no pss_nil)))) pE, ?_⟩
      intro D b c ns ct cd k way T Ls ra ds u wv e we x0 x5 H1 hD c0 c1 hns L idle wx pb hlen du dw ut wf
      refine ⟨_, rfl, by decide, by decide, for_range (n := 3) (fun i σ H' => (∃ x9 x10, σ = [x0, some (.ref b), some (.str k), some (.str way), some (.ref cd), x5, some (.ref ra), some u, some wv, x9, x10, none]) ∧ ∃ ct', ct ≤ ct' ∧ ct' ≤ ct + i ∧ LW K C CC H' b c ns ct' cd k way T Ls ra ds ∧ Dp K H' u e ∧ Dp K H' wv we) ⟨⟨_, _, rfl⟩, ct, by omega, by omega, L, du, dw⟩ ?_ ?_⟩
      · rintro i σ H2 hi ⟨⟨x9, x10, rfl⟩, ct', g1, g2, L2, du2, dw2⟩
        refine ⟨_, rfl, _, rfl, _, rfl, _, rfl, b, c, ns, ct', k, way, ra, ds, rfl, L2.bag, by omega, by omega, hns, L2.dr, fun ov oe H3 B3 s3 dq3 odd => ?_⟩
        have L3 := L2.but B3 s3
        have du3 := dp_bag L2.bag s3 du2
        have dw3 := dp_bag L2.bag s3 dw2
        have plt : ∀ {H' : Hp}, Same H3 H' → ∀ a, ov = .ref a → putSet k = true → ringD oe = true → PlT K H' a := fun s a ea _ hr => (dq3.2 a ea (by cases oe <;> first | rfl | cases hr)).keep s
        obtain ⟨osh, ono⟩ := odd
        refine ⟨_, rfl, _, rfl, _, rfl, cd, k, way, T, Ls, ov, u, oe, e, rfl, L3.cp, wx, idle, dq3.1, osh, du3, plt (Same.refl _), .inl ⟨ono, fun p H4 hp s4 h4 => ?_⟩⟩
        refine ⟨_, rfl, (by show 2 ≤ sizeLine; decide), fun q hq => ?_⟩
        have s5 := @same_upd _ q (.tup [V.str "ring", ov]) hq
        refine ⟨p, q, _, rfl, rfl, SqT.of (s5 _ _ h4), SqT.of upd_same, plain2 (dp_plain dq3.1), _, rfl, iteF ?_⟩
        generalize upd H4 q (.tup [V.str "ring", ov]) = H5 at s5 ⊢
        have s45 := s4.trans s5
        have L5 := L3.same s45
        refine ⟨_, rfl, _, rfl, _, rfl, cd, k, way, T, Ls, ov, wv, oe, we, rfl, L5.cp, wx, idle, dq3.1.keep s45, osh, dw3.keep s45, plt s45, .inl ⟨ono, fun p6 H6 hp6 s6 h6 => ?_⟩⟩
        refine ⟨_, rfl, (by show 2 ≤ sizeLine; decide), fun q7 hq7 => ?_⟩
        have s7 := @same_upd _ q7 (.tup [V.str "ring", ov]) hq7
        refine ⟨p6, q7, _, rfl, rfl, SqT.of (s7 _ _ h6), SqT.of upd_same, plain2 (dp_plain dq3.1), _, rfl, iteF ?_⟩
        have s67 := s6.trans s7
        exact ⟨⟨_, _, rfl⟩, ct' + 1, by omega, by omega, L5.same s67, (du3.keep s45).keep s67, (dw3.keep s45).keep s67⟩
      · rintro σ H2 ⟨⟨x9, x10, rfl⟩, ct', g1, g2, L2, du2, dw2⟩
        exact qE _ b c ns ct' cd k way T Ls ra ds u wv e we x0 x5 x9 x10 H2 hD L2 idle wx pb hlen du2 dw2 ut wf
    -- the code, the ring and what is handed
    refine ⟨_, pss_cons (ps_set (i := 1) scLaw.nd rfl (Or.inl rfl) (pe_call GBg hr1 (by rfl) gB kB bB .nil pass0 (pa_cons (pv 0) pa_nil)))
      (pss_cons (ps_set (i := 2) scLaw.nd rfl (Or.inl rfl) (pe_ix ix_list (pe_lst (pa_cons pe_str (pa_cons pe_str (pa_cons pe_str (pa_cons pe_str (pa_cons pe_str pa_nil)))))) (pe_call GD hr1 (by rfl) gD kD bD .nil pass0 (pa_cons (pv 1) (pa_cons pe_int pa_nil))) (fun _ _ => rfl)))
      (pss_cons (ps_set (i := 3) scLaw.nd rfl (Or.inl rfl) (pe_ix ix_list (pe_lst (pa_cons pe_str (pa_cons pe_str (pa_cons pe_str pa_nil)))) (pe_call GD hr1 (by rfl) gD kD bD .nil pass0 (pa_cons (pv 1) (pa_cons pe_int pa_nil))) (fun _ _ => rfl)))
      (pss_cons (ps_par (i := 4) (j := 5) (by rfl) scLaw.nd rfl rfl (by decide) rfl rfl (pa_cons (pe_make (E := fun _ _ _ => False) MC GC hr11 (by rfl) TT.gC bC .nil (passes_call takes0 (fun _ _ _ _ z => z)) (pa_cons (pv 2) (pa_cons (pv 3) (pa_cons (pe_ix ix_list (pe_lst (pa_cons pe_str (pa_cons pe_str (pa_cons pe_str pa_nil)))) (pe_call GD hr1 (by rfl) gD kD bD .nil pass0 (pa_cons (pv 1) (pa_cons pe_int pa_nil))) (fun _ _ => rfl)) pa_nil))))
        (pa_cons (pe_op op_add pe_int (pe_callTy call_int1 (by rfl) TG.int (by decide +kernel) (pa_cons (pe_cmpR op_in_seq (pv 2) (pe_lst (pa_cons pe_str (pa_cons pe_str pa_nil))) (by rfl)) pa_nil))) pa_nil)) (by rfl))
      (pss_cons (ps_set (i := 6) scLaw.nd rfl (Or.inl rfl) (pe_call GR hr2 (by rfl) gR kR bR .nil pass0 (pa_cons (pv 1) (pa_cons (pv 3) (pa_cons (pe_op op_add (pv 5) (pe_call GD hr1 (by rfl) gD kD bD .nil pass0 (pa_cons (pv 1) (pa_cons pe_int pa_nil)))) (pa_cons (pv 5) pa_nil))))))
      (pss_cons (ps_par (i := 7) (j := 8) (by rfl) scLaw.nd rfl rfl (by decide) rfl rfl (pa_cons (pe_call GT_ hr2 (by rfl) gT kT bT .nil pass0 (pa_cons (pv 1) (pa_cons (pv 2) (pa_cons (pv 6) pa_nil)))) (pa_cons (pe_call GW hr2 (by rfl) gW kW bW .nil pass0 (pa_cons (pv 1) (pa_cons (pv 2) (pa_cons (pv 6) pa_nil)))) pa_nil)) (by rfl)) pF))))), ?_⟩
    refine ⟨_, rfl, a, ns, rfl, sa, by omega, fun b c H1 hb B1 s1 => ?_⟩
    have hn : ns.length < 1000 := by omega
    -- the kind
    refine ⟨(by show 5 ≤ sizeLine; decide), fun l1 hl1 => ?_⟩
    have B2 := B1.keep (@same_upd _ l1 (.lst [V.str "find", V.str "put", V.str "set", V.str "take", V.str "drop"]) hl1)
    refine ⟨_, rfl, b, c, 5, ns, 0, rfl, B2, by omega, by omega, by decide, by decide, hn, fun r1 H3 hr1 hr1' B3 s3 => ?_⟩
    obtain ⟨k, ek, hk⟩ : ∃ k : Str, atI [V.str "find", V.str "put", V.str "set", V.str "take", V.str "drop"] r1 = some (.str k) ∧ kindM k = true := by
      rcases (show r1 = 0 ∨ r1 = 1 ∨ r1 = 2 ∨ r1 = 3 ∨ r1 = 4 by omega) with e | e | e | e | e <;> subst e
      · exact ⟨_, rfl, by decide +kernel⟩
      · exact ⟨_, rfl, by decide +kernel⟩
      · exact ⟨_, rfl, by decide +kernel⟩
      · exact ⟨_, rfl, by decide +kernel⟩
      · exact ⟨_, rfl, by decide +kernel⟩
    refine ⟨l1, _, r1, _, rfl, rfl, SqL.of (lst_but B2 s3 upd_same), ek, ?_⟩
    -- the way
    refine ⟨(by show 3 ≤ sizeLine; decide), fun l2 hl2 => ?_⟩
    have B4 := B3.keep (@same_upd _ l2 (.lst [V.str "plain", V.str "stones", V.str "sorted"]) hl2)
    refine ⟨_, rfl, b, c, 3, ns, _, rfl, B4, by omega, by omega, by decide, by decide, hn, fun r2 H5 hr2 hr2' B5 s5 => ?_⟩
    obtain ⟨x, ex, hx⟩ : ∃ x : Str, atI [V.str "plain", V.str "stones", V.str "sorted"] r2 = some (.str x) ∧ wayM x = true := by
      rcases (show r2 = 0 ∨ r2 = 1 ∨ r2 = 2 by omega) with e | e | e <;> subst e
      · exact ⟨_, rfl, by decide +kernel⟩
      · exact ⟨_, rfl, by decide +kernel⟩
      · exact ⟨_, rfl, by decide +kernel⟩
    refine ⟨l2, _, r2, _, rfl, rfl, SqL.of (lst_but B4 s5 upd_same), ex, ?_⟩
    -- the code
    refine ⟨_, rfl, _, rfl, (by show 3 ≤ sizeLine; decide), fun l3 hl3 => ?_⟩
    have B6 := B5.keep (@same_upd _ l3 (.lst [V.str "", V.str "out = none", V.str "quit"]) hl3)
    refine ⟨_, rfl, b, c, 3, ns, _, rfl, B6, by omega, by omega, by decide, by decide, hn, fun r3 H7 hr3 hr3' B7 s7 => ?_⟩
    obtain ⟨T, Ls, eT, MT⟩ : ∃ (T : Str) (Ls : List LineM), atI [V.str "", V.str "out = none", V.str "quit"] r3 = some (.str T) ∧ MadeT T Ls := by
      rcases (show r3 = 0 ∨ r3 = 1 ∨ r3 = 2 by omega) with e | e | e <;> subst e
      · exact ⟨_, _, rfl, made0⟩
      · exact ⟨_, _, rfl, made1⟩
      · exact ⟨_, _, rfl, made2⟩
    have idle : Idle Ls := MT.2.2.2.2.2.2
    refine ⟨l3, _, r3, _, rfl, rfl, SqL.of (lst_but B6 s7 upd_same), eT, ?_⟩
    intro cd dx hcd hdx hcx
    have s70 := made_same (o := .own cd) (u := .ins CC dx []) hcd hdx
    refine ⟨cd, dx, _, _, T, rfl, upd_same, codeC_made hk hx MT fun tt tp ps H8 o1 o2 o3 o4 o5 => ⟨rfl, ?_⟩⟩
    have s8 : Same H7 H8 := fun b o h => o1 b o (ne_of_none h hcd) (s70 _ _ h)
    have cp8 : CodeP K C CC H8 cd k x T Ls := ⟨dx, tt, tp, ps, o2, o4, o5⟩
    have B8 := B7.keep s8
    -- the rows that stay free
    refine ⟨_, rfl, (by show 2 ≤ sizeLine; decide), fun l4 hl4 => ?_⟩
    have s9 := @same_upd _ l4 (.lst [V.str "put", V.str "set"]) hl4
    refine ⟨l4, _, rfl, .inl (SqL.of upd_same), rfl, by kernel_rfl, ?_⟩
    generalize upd H8 l4 (.lst [V.str "put", V.str "set"]) = H9 at s9 ⊢
    have B9 := B8.keep s9
    have cp9 := cp8.same s9
    obtain ⟨n, en, n1, n2, n3⟩ : ∃ n : Nat, (1 : Int) + (if putSet k = true then 1 else 0) = ((n : Nat) : Int) ∧ 1 ≤ n ∧ n ≤ 2 ∧ (putSet k = true → n = 2) := by
      cases putSet k with
      | true => exact ⟨2, rfl, by omega, by omega, fun _ => rfl⟩
      | false => exact ⟨1, rfl, by omega, by omega, fun z => nomatch z⟩
    refine .inr ⟨putSet k, rfl, _, _, rfl, rfl, ?_⟩
    rw [show (fun i j : Int => V.int (i + j)) 1 (if putSet k = true then 1 else 0) = V.int ((n : Nat) : Int) from congrArg V.int en]
    refine ⟨_, _, rfl, ?_⟩
    -- the ring
    refine ⟨_, rfl, _, rfl, _, rfl, _, rfl, b, c, 11, ns, _, rfl, B9, by omega, by omega, by decide, by decide, hn, fun r4 HA hr4 hr4' B10 s10 => ?_⟩
    obtain ⟨q4, e4⟩ : ∃ q : Nat, r4 = (q : Int) := ⟨r4.toNat, by omega⟩
    subst e4
    have cp10 := codeP_bag B9 s10 cp9
    refine ⟨_, _, rfl, rfl, _, rfl, b, c, ns, _, x, n + q4, n, rfl, B10, by omega, by omega, hn, hx, n1, by omega, by omega, fun ra ds HB ct' k0 k1 B11 s11 dr pt hlen hring hlaw hcnt hkey => ?_⟩
    have cp11 := codeP_bag B10 s11 cp10
    have hl60 : ds.length ≤ 60 := by omega
    have pb : PlayB k x (.tuple ds) := ⟨ds, rfl, hring, hlaw, fun z => by have := n3 z; omega⟩
    -- what is handed
    refine ⟨_, rfl, _, rfl, _, rfl, b, c, ns, ct', k, ra, ds, rfl, B11, by omega, by omega, hn, dr, hring, hl60, hkey, fun u e HC ct2 k2 k3 B12 s12 du ut => ?_⟩
    have dr12 := dp_bag B11 s12 dr
    refine ⟨_, rfl, _, rfl, _, rfl, b, c, ns, ct2, k, ra, ds, rfl, B12, by omega, by omega, hn, dr12, hring, hl60, fun wv we HD ct3 k4 k5 B13 s13 dw wf => ?_⟩
    refine ⟨_, _, rfl, ?_⟩
    refine qF _ b c ns ct3 cd k x T Ls ra ds u wv e we _ _ HD rfl (by omega) (by omega) hn ⟨B13, codeP_bag B12 s13 (codeP_bag B11 s12 cp11), dp_bag B12 s13 dr12, plT_bag B12 s13 (plT_bag B11 s12 pt)⟩ idle hx pb hl60 (dp_bag B12 s13 du) dw ut wf
end
end K40

/-! ## The end: what the top has written -/
namespace K40
open PySem PySem.Spec PyProof.Rows L2 Fm PySem.RingX
theorem valsB_ok : ∀ {l : List Value} {ws : List Str}, valsB l ws = true → Vals (ws.map V.str) l
  | [], [], _ => .nil
  | [], _ :: _, h => by cases h
  | .str x t :: r, y :: s, h => by
    obtain ⟨h1, h2⟩ := Bool.and_eq_true_iff.mp (show (decide (x = y) && valsB r s) = true from h)
    cases of_decide_eq_true h1
    exact .cons ⟨t, rfl⟩ (valsB_ok h2)
  | .str x t :: r, [], h => by cases h
theorem strTupB_ok {K : PySem.W.Frag} {a : Addr} {ws : List Str} (h : strTupB K a ws = true) : ∀ H : Hp, SqT K H a (ws.map V.str) := by
  unfold strTupB at h
  split at h
  · rename_i o ho
    obtain ⟨h1, h2⟩ := Bool.and_eq_true_iff.mp h
    split at h2
    · rename_i its n hd
      obtain ⟨h3, h4⟩ := Bool.and_eq_true_iff.mp h2
      exact fun H => .inr ⟨o, its, n, ho, of_decide_eq_true h1, hd, of_decide_eq_true h3, valsB_ok h4⟩
    · cases h2
  · cases h
theorem dpAll_strs {K : PySem.W.Frag} {H : Hp} : ∀ ws : List Str, DpAll K H (ws.map V.str) (ws.map PyData.str)
  | [] => .nil
  | _ :: r => .cons (.str _) (dpAll_strs r)
theorem strTupB_dp {K : PySem.W.Frag} {a : Addr} {ws : List Str} (h : strTupB K a ws = true) (H : Hp) : Dp K H (.ref a) (strsD ws) := .tup (strTupB_ok h H) (dpAll_strs ws)
theorem pairsB_ok {K : PySem.W.Frag} : ∀ {l : List Value} {fs : List (Str × Str)}, pairsB K l fs = true → ∃ vs, Vals vs l ∧ ∀ H : Hp, DpAll K H vs (fs.map fun p => PyData.tuple [.str p.1, .str p.2])
  | [], [], _ => ⟨[], .nil, fun _ => .nil⟩
  | [], _ :: _, h => by cases h
  | .ref a :: r, p :: s, h => by
    obtain ⟨h1, h2⟩ := Bool.and_eq_true_iff.mp (show (strTupB K a [p.1, p.2] && pairsB K r s) = true from h)
    obtain ⟨vs, v1, v2⟩ := pairsB_ok h2
    exact ⟨.ref a :: vs, .cons rfl v1, fun H => .cons (strTupB_dp h1 H) (v2 H)⟩
  | .ref a :: r, [], h => by cases h
theorem formsB_ok {K : PySem.W.Frag} {a : Addr} {fs : List (Str × Str)} (h : formsB K a fs = true) : ∀ H : Hp, Dp K H (.ref a) (formsD fs) := by
  unfold formsB at h
  split at h
  · rename_i o ho
    obtain ⟨h1, h2⟩ := Bool.and_eq_true_iff.mp h
    split at h2
    · rename_i its n hd
      obtain ⟨h3, h4⟩ := Bool.and_eq_true_iff.mp h2
      obtain ⟨vs, v1, v2⟩ := pairsB_ok h4
      exact fun H => .tup (.inr ⟨o, its, n, ho, of_decide_eq_true h1, hd, of_decide_eq_true h3, v1⟩) (v2 H)
    · cases h2
  · cases h
theorem placesB_ok {K : PySem.W.Frag} (m : Str) : ∀ {l : List DictEntry} {ps : List (Str × List Str)}, placesB K l ps = true → l.any (·.refKey) = false ∧
    ∃ r, RelO r ((l.find? (·.key.isStr m)).map (·.val)) ∧ r.isSome = (ps.lookup m).isSome ∧ ∀ ws, ps.lookup m = some ws → ∃ b, r = some (.ref b) ∧ ∀ H, SqT K H b (ws.map V.str)
  | [], [], _ => ⟨rfl, none, trivial, rfl, fun _ h => by cases h⟩
  | [], _ :: _, h => by cases h
  | _ :: _, [], h => by cases h
  | e :: l, p :: ps, h => by
    obtain ⟨h1, h2⟩ := Bool.and_eq_true_iff.mp (show ((match e.key, e.val with | .str x _, .ref b => decide (x = p.1) && strTupB K b p.2 | _, _ => false) && placesB K l ps) = true from h)
    obtain ⟨i1, r, i2, i3, i4⟩ := placesB_ok m h2
    obtain ⟨q1, q2⟩ := p
    obtain ⟨hh, key, val⟩ := e
    dsimp only at h1
    split at h1
    · rename_i x t b
      obtain ⟨h3, h4⟩ := Bool.and_eq_true_iff.mp h1
      have h3 : x = q1 := of_decide_eq_true h3
      subst h3
      refine ⟨by rw [List.any_cons, i1]; rfl, ?_⟩
      by_cases c : x = m
      · subst c
        refine ⟨some (.ref b), ?_, ?_, fun ws hw => ?_⟩
        · rw [List.find?_cons, show ((⟨hh, .str x t, .ref b⟩ : DictEntry).key.isStr x) = true from beq_self_eq_true _]
          rfl
        · rw [List.lookup_cons, beq_self_eq_true]; rfl
        · rw [List.lookup_cons, beq_self_eq_true] at hw
          cases hw
          exact ⟨b, rfl, strTupB_ok h4⟩
      · have c1 : (x == m) = false := beq_eq_false_iff_ne.mpr c
        have c2 : (m == x) = false := beq_eq_false_iff_ne.mpr fun z => c z.symm
        refine ⟨r, ?_, ?_, fun ws hw => ?_⟩
        · rw [List.find?_cons, show ((⟨hh, .str x t, .ref b⟩ : DictEntry).key.isStr m) = false from c1]
          exact i2
        · rw [List.lookup_cons, c2]; exact i3
        · rw [List.lookup_cons, c2] at hw
          exact i4 ws hw
    · cases h1
theorem places_mk {K : PySem.W.Frag} {w : World} {a : Addr} {es : Array DictEntry} {n : Nat} (hl : K.lookup a = some ⟨.type "dict", none, .dict es n, #[]⟩) (hk : PySem.W.KeysLit w.params es.toList) (hs : (a == sysModules) = false) (h : placesB K es.toList PL = true) (m : Str) :
    ∃ r, KHas K w a m r ∧ r.isSome = (placeM m).isSome ∧ ∀ ws, placeM m = some ws → ∃ b, r = some (.ref b) ∧ ∀ H, SqT K H b (ws.map V.str) := by
  obtain ⟨h1, r, h2, h3, h4⟩ := placesB_ok m h
  refine ⟨r, ⟨es, n, _, hl, hk, hs, ?_, h2⟩, h3, h4⟩
  unfold PySem.W.nsIn
  rw [hl]
  dsimp only
  cases e : es.toList.find? (·.key.isStr m) with
  | none =>
    dsimp only
    rw [if_neg (by rw [h1]; exact Bool.false_ne_true)]
    rfl
  | some en => rfl
theorem kl_nil {P : Params} : PySem.W.KeysLit P [] := trivial
theorem kl_cons {P : Params} {x : Str} {t : Tok} {v : Value} {r : List DictEntry} (h : PySem.W.KeysLit P r) : PySem.W.KeysLit P (⟨PyData.keyHash P x, .str x t, v⟩ :: r) := ⟨⟨x, t, rfl, rfl⟩, h⟩
theorem clsB_ok {K : PySem.W.Frag} {mg : Str → Option Value} {C : Addr} {nm : Str} {fs : List Str} (h : clsB K C fs = true) (g : mg nm = some (.ref C)) : ClsT K mg C nm fs ∧ PySem.W.makesIn K C = true ∧ PySem.W.keepIn K (.ref C) = true := by
  unfold clsB at h
  simp only [Bool.and_eq_true, decide_eq_true_eq, List.all_eq_true] at h
  obtain ⟨h1, h2, h3, h4, h5, h6, h7⟩ := h
  exact ⟨⟨⟨h1, h2, h3, h4⟩, fun f hf => h7 f hf, g⟩, h5, h6⟩
theorem kit_self {K : PySem.W.Frag} {C : Addr} : PySem.W.kitOne K (.ref C) (.ref C) = some true := by
  unfold PySem.W.kitOne
  rw [if_pos (beq_self_eq_true _)]
theorem DT.fn {K : PySem.W.Frag} {d : DT} (e : ftOf K (He.fAd K d.at_) = d.val) (c : d.ok K = true) :
    ∃ (oc : Value) (od : Option Addr) (kV doc pm : Value) (an : Option Addr) (cdv ct : Value) (osl : Array (Option Value)) (cl : List (Str × Addr)), cl.map (·.1) = d.cl ∧
      K.lookup (He.fAd K d.at_) = some ⟨oc, od, .func (PySem.W.fnX d.name d.qual (defArgs d.st) (defBody d.st) (defScope d.st) cl .none kV doc pm an cdv ct), osl⟩ ∧ PySem.W.codeIn K cdv d.qual = true ∧ PySem.W.keepIn K (.ref (He.fAd K d.at_)) = true := by
  obtain ⟨kp, c2⟩ := Bool.and_eq_true_iff.mp c
  unfold ftOf at e
  cases q : K.lookup (He.fAd K d.at_) with
  | none =>
    rw [q] at c2
    cases c2
  | some o =>
    obtain ⟨oc, od, dt, osl⟩ := o
    rw [q] at c2 e
    cases dt with
    | func fd =>
      obtain ⟨n1, n2, n3, n4, n5, n6, n7, n8, n9, n10, n11, n12, n13, n14, n15⟩ := fd
      have e2 : (some (n1, n2, n3, n4, n5, n6, n7.map (·.1), n8, n15) : FT) = some (d.name, d.qual, defArgs d.st, .stmts (defBody d.st), defScope d.st, mainGlobals, d.cl, .none, builtinsNs) := e
      simp only [Option.some.injEq, Prod.mk.injEq] at e2
      obtain ⟨h1, h2, h3, h4, h5, h6, h7, h8, h9⟩ := e2
      subst h1 h2 h3 h4 h5 h6 h8 h9
      exact ⟨oc, od, n9, n10, n11, n12, n13, n14, osl, n7, h7, rfl, c2, kp⟩
    | _ => cases c2
theorem DT.fun_ {K : PySem.W.Frag} {d : DT} (e : ftOf K (He.fAd K d.at_) = d.val) (hc : d.cl = []) (c : d.ok K = true) : ∃ fd, Fun K d.name d.qual d.st (He.fAd K d.at_) fd := by
  obtain ⟨oc, od, kV, doc, pm, an, cdv, ct, osl, cl, h1, h2, h3, h4⟩ := d.fn e c
  rw [hc] at h1
  rw [List.map_eq_nil_iff] at h1
  subst h1
  exact ⟨_, fun_mk h2 h3 h4⟩
theorem exCl_ok {K : PySem.W.Frag} {C : Addr} (h : exClB K C = true) : ∃ cn q N bs bm sn sub ab col dd k0 k1 k2 k3 k5, K.lookup C = some (excClassObj cn q C N bs bm true sn sub ab col dd k0 k1 k2 k3 k5 "ValueError.__new__") ∧ PySem.HandSPX.refsVE bm = true := by
  unfold exClB at h
  split at h
  · rename_i t dd cd sl hl
    simp only [Bool.and_eq_true, decide_eq_true_eq, Bool.not_eq_true'] at h
    obtain ⟨h1, h2, h3, h4, h5⟩ := h
    subst h1
    split at h4
    · rename_i D bm hm
      obtain ⟨h6, h7⟩ := Bool.and_eq_true_iff.mp h4
      have h6 : D = C := of_decide_eq_true h6
      subst h6
      split at h5
      · rename_i k0 k1 k2 k3 n k5 hs
        have h5 : n = "ValueError.__new__" := of_decide_eq_true h5
        subst h5
        obtain ⟨sla⟩ := sl
        have hs : sla = _ := hs
        subst hs
        obtain ⟨c1, c2, c3, c4, c5, c6, c7, c8, c9, c10, c11⟩ := cd
        cases h2
        cases h3
        cases hm
        exact ⟨_, _, _, _, _, _, _, _, _, _, _, _, _, _, _, hl, h7⟩
      · cases h5
    · cases h4
  · cases h
theorem exx_mk {prog : Program} {K : PySem.W.Frag} {h : Heap} {mg : Str → Option Value} {nm qual : Str} {fs : List Str} {st : Stmt} (X : K.In h) (G : h.Ns mainGlobals mg) (T : ExText st fs) (hg : (He.Fa.glo nm).ok K = true) (h1 : exClB K (He.ga K nm) = true)
    (h2 : ftOf K (He.fAd K (nm, some "__init__")) = DT.val ⟨(nm, some "__init__"), "__init__", qual, st, ["__class__"]⟩) (h3 : DT.ok K ⟨(nm, some "__init__"), "__init__", qual, st, ["__class__"]⟩ = true) (h4 : exFnB prog.main.file K (He.ga K nm) = true) (chk : exB K (He.ga K nm) (He.ma K (He.ga K nm) "__init__") fs = true)
    (op : (PySem.W.nsIn K PySem.cStatics "thirdparty.any" = some none)) (su : (He.Fa.free "super").ok K = true) (htop : (prog.main.scope.names.lookup ("super" : Str)).isSome = false) : ExTxt prog K mg (He.ga K nm) (He.ma K (He.ga K nm) "__init__") nm fs := by
  obtain ⟨cn, q, N, bs, bm, sn, sub, ab, col, dd, k0, k1, k2, k3, k5, xC, hbm⟩ := exCl_ok h1
  obtain ⟨oc, od, kV, doc, pm, an, cdv, ct, osl, cl, g1, g2, g3, g4⟩ := DT.fn h2 h3
  obtain ⟨cc, rfl⟩ : ∃ cc, cl = [(("__class__" : Str), cc)] := by
    have g0 : cl.map (·.1) = [("__class__" : Str)] := g1
    cases cl with
    | nil => cases g0
    | cons a r =>
      obtain ⟨x, cc⟩ := a
      rw [List.map_cons, List.cons.injEq] at g0
      obtain ⟨e1, e2⟩ := g0
      have e1 : x = ("__class__" : Str) := e1
      rw [List.map_eq_nil_iff] at e2
      subst e1 e2
      exact ⟨cc, rfl⟩
  unfold exFnB at h4
  rw [show K.lookup (He.ma K (He.ga K nm) "__init__") = _ from g2] at h4
  obtain ⟨h5, h6⟩ := Bool.and_eq_true_iff.mp h4
  dsimp only at h5 h6
  cases cdv with
  | ref cda =>
    dsimp only at h5
    split at h5
    · rename_i ccl cdd vs ccs ca
      split at h5
      · rename_i file tf hv
        split at h6
        · rename_i cl cld D csl ce
          have h6 : D = He.ga K nm := of_decide_eq_true h6
          subst h6
          exact ex_mk X G T (He.eqO_ok hg) xC hbm g2 g3 ce ca hv h5 chk op (He.eqO_ok su) htop
        · cases h6
      · cases h5
    · cases h5
  | _ => cases h5
theorem pl_keys {K : PySem.W.Frag} {P : Params} : ∀ {l : List DictEntry} {ps : List (Str × List Str)}, placesB K l ps = true → l.map (·.hash) = ps.map (fun p => PyData.keyHash P p.1) → PySem.W.KeysLit P l
  | [], [], _, _ => trivial
  | [], _ :: _, h, _ => by cases h
  | _ :: _, [], h, _ => by cases h
  | e :: l, p :: ps, h, g => by
    obtain ⟨h1, h2⟩ := Bool.and_eq_true_iff.mp (show ((match e.key, e.val with | .str x _, .ref b => decide (x = p.1) && strTupB K b p.2 | _, _ => false) && placesB K l ps) = true from h)
    rw [List.map_cons, List.map_cons, List.cons.injEq] at g
    refine ⟨?_, pl_keys h2 g.2⟩
    split at h1
    · rename_i x t b hk hv
      have h3 : x = p.1 := of_decide_eq_true (Bool.and_eq_true_iff.mp h1).1
      exact ⟨x, t, hk, by rw [h3]; exact g.1⟩
    · cases h1
theorem pl_ok {K : PySem.W.Frag} {w : World} (h : plB K = true) (e : plHs K = PL.map fun p => PyData.keyHash w.params p.1) (m : Str) :
    ∃ r, KHas K w (He.ga K "PLACES") m r ∧ r.isSome = (placeM m).isSome ∧ ∀ ws, placeM m = some ws → ∃ b, r = some (.ref b) ∧ ∀ H, SqT K H b (ws.map V.str) := by
  unfold plB at h
  unfold plHs at e
  split at h
  · rename_i t es n sl hl
    simp only [Bool.and_eq_true, decide_eq_true_eq, Bool.not_eq_true'] at h
    obtain ⟨h1, h2, h3, h4⟩ := h
    subst h1
    rw [hl] at e
    obtain ⟨sla⟩ := sl
    have hs : sla = [] := List.isEmpty_iff.mp h2
    subst hs
    exact places_mk hl (pl_keys h4 e) h3 h4 m
  · cases h
theorem exB7_eq {K : PySem.W.Frag} {C fI : Addr} {fs : List Str} (h : exB7 K C fI fs = true) : exB K C fI fs = true := h
end K40

namespace K40
open PySem PySem.Spec PyProof.Rows L2 Fm PySem.RingX
theorem text0 : ExText s_BadKind_init ["kind"] := ⟨by rfl, by rfl, by rfl, by rfl, by rfl, by decide +kernel, by decide, fun _ _ _ _ _ _ _ _ _ _ us h => match us, h with | [_], _ => .of_eq rfl⟩
theorem text1 : ExText s_BadWay_init ["way"] := ⟨by rfl, by rfl, by rfl, by rfl, by rfl, by decide +kernel, by decide, fun _ _ _ _ _ _ _ _ _ _ us h => match us, h with | [_], _ => .of_eq rfl⟩
theorem text2 : ExText s_BadLine_init ["line"] := ⟨by rfl, by rfl, by rfl, by rfl, by rfl, by decide +kernel, by decide, fun _ _ _ _ _ _ _ _ _ _ us h => match us, h with | [_], _ => .of_eq rfl⟩
theorem text3 : ExText s_TooMany_init ["what", "many", "most"] := ⟨by rfl, by rfl, by rfl, by rfl, by rfl, by decide +kernel, by decide, fun _ _ _ _ _ _ _ _ _ _ us h => match us, h with | [_, _, _], _ => .of_eq rfl⟩
theorem text4 : ExText s_BadRing_init ["ring"] := ⟨by rfl, by rfl, by rfl, by rfl, by rfl, by decide +kernel, by decide, fun _ _ _ _ _ _ _ _ _ _ us h => match us, h with | [_], _ => .of_eq rfl⟩
theorem text5 : ExText s_BadHanded_init ["handed"] := ⟨by rfl, by rfl, by rfl, by rfl, by rfl, by decide +kernel, by decide, fun _ _ _ _ _ _ _ _ _ _ us h => match us, h with | [_], _ => .of_eq rfl⟩
theorem facts {w : World} {K : PySem.W.Frag} {h : Heap} {mg : Str → Option Value} {fa : Addr} (X : K.In h) (G : h.Ns mainGlobals mg) (hfa : mg "law" = some (.ref fa)) (c : obsH cks dts K = valH dts w) :
    ∃ fd : FuncData, (∀ (s : Shared) (v : Value), BindsTo s fd ⟨[v], []⟩ [("script", v)]) ∧ ∀ base : Heap, K.In base → base.Ns mainGlobals mg → FnOk P7 w K mg base CX0 13 fa fd ["script"] (spLaw K) := by
  have op : PySem.W.nsIn K PySem.cStatics "thirdparty.any" = some none := of_decide_eq_true (sees_chk c 151 (f := ck151) rfl)
  have hn : PySem.W.specialIn K (.builtin "object.__class__") "__get__" = some (some (.builtin "getset_descriptor.__get__")) := of_decide_eq_true (sees_chk c 149 (f := ck149) rfl)
  have ht : PySem.W.takesIn K (.builtin "object.__class__") = some true := of_decide_eq_true (sees_chk c 150 (f := ck150) rfl)
  have htop : (P7.main.scope.names.lookup ("super" : Str)).isSome = false := by decide +kernel
  have E0 : ExTxt P7 K mg (He.ga K "BadKind") (He.ma K (He.ga K "BadKind") "__init__") "BadKind" ["kind"] := exx_mk X G text0 (sees_chk c 60 (f := ck60) rfl) (sees_chk c 128 (f := ck128) rfl) (sees_ft c 69 (d := dt69) rfl) (sees_ok c 69 (d := dt69) rfl) (sees_chk c 129 (f := ck129) rfl) (sees_chk c 130 (f := ck130) rfl) op (sees_chk c 95 (f := ck95) rfl) htop
  have E1 : ExTxt P7 K mg (He.ga K "BadWay") (He.ma K (He.ga K "BadWay") "__init__") "BadWay" ["way"] := exx_mk X G text1 (sees_chk c 61 (f := ck61) rfl) (sees_chk c 131 (f := ck131) rfl) (sees_ft c 70 (d := dt70) rfl) (sees_ok c 70 (d := dt70) rfl) (sees_chk c 132 (f := ck132) rfl) (sees_chk c 133 (f := ck133) rfl) op (sees_chk c 95 (f := ck95) rfl) htop
  have E2 : ExTxt P7 K mg (He.ga K "BadLine") (He.ma K (He.ga K "BadLine") "__init__") "BadLine" ["line"] := exx_mk X G text2 (sees_chk c 62 (f := ck62) rfl) (sees_chk c 134 (f := ck134) rfl) (sees_ft c 71 (d := dt71) rfl) (sees_ok c 71 (d := dt71) rfl) (sees_chk c 135 (f := ck135) rfl) (sees_chk c 136 (f := ck136) rfl) op (sees_chk c 95 (f := ck95) rfl) htop
  have E3 : ExTxt P7 K mg (He.ga K "TooMany") (He.ma K (He.ga K "TooMany") "__init__") "TooMany" ["what", "many", "most"] := exx_mk X G text3 (sees_chk c 63 (f := ck63) rfl) (sees_chk c 137 (f := ck137) rfl) (sees_ft c 72 (d := dt72) rfl) (sees_ok c 72 (d := dt72) rfl) (sees_chk c 138 (f := ck138) rfl) (sees_chk c 139 (f := ck139) rfl) op (sees_chk c 95 (f := ck95) rfl) htop
  have E4 : ExTxt P7 K mg (He.ga K "BadRing") (He.ma K (He.ga K "BadRing") "__init__") "BadRing" ["ring"] := exx_mk X G text4 (sees_chk c 64 (f := ck64) rfl) (sees_chk c 140 (f := ck140) rfl) (sees_ft c 73 (d := dt73) rfl) (sees_ok c 73 (d := dt73) rfl) (sees_chk c 141 (f := ck141) rfl) (sees_chk c 142 (f := ck142) rfl) op (sees_chk c 95 (f := ck95) rfl) htop
  have E5 : ExTxt P7 K mg (He.ga K "BadHanded") (He.ma K (He.ga K "BadHanded") "__init__") "BadHanded" ["handed"] := exx_mk X G text5 (sees_chk c 65 (f := ck65) rfl) (sees_chk c 143 (f := ck143) rfl) (sees_ft c 74 (d := dt74) rfl) (sees_ok c 74 (d := dt74) rfl) (sees_chk c 144 (f := ck144) rfl) (sees_chk c 145 (f := ck145) rfl) op (sees_chk c 95 (f := ck95) rfl) htop
  have XA : EXA P7 K mg (He.ga K "BadKind") (He.ga K "BadWay") (He.ga K "BadLine") (He.ga K "TooMany") _ _ _ _ := ⟨E0, E1, E2, E3⟩
  have XE : EX P7 K mg (He.ga K "BadWay") (He.ga K "BadRing") _ _ := ⟨E1, E4⟩
  have TLine : ClsT K mg (He.ga K "Line") "Line" lineNames := (clsB_ok (sees_chk c 104 (f := ck104) rfl) (He.glo_ok X G (sees_chk c 66 (f := ck66) rfl))).1
  have TWalk : ClsT K mg (He.ga K "Walk") "Walk" walkNames := (clsB_ok (sees_chk c 105 (f := ck105) rfl) (He.glo_ok X G (sees_chk c 67 (f := ck67) rfl))).1
  have TCode : ClsT K mg (He.ga K "Code") "Code" codeNames := (clsB_ok (sees_chk c 106 (f := ck106) rfl) (He.glo_ok X G (sees_chk c 68 (f := ck68) rfl))).1
  have TState : ClsT K mg (He.ga K "State") "State" stNames := (clsB_ok (sees_chk c 107 (f := ck107) rfl) (He.glo_ok X G (sees_chk c 69 (f := ck69) rfl))).1
  have TPlay : ClsT K mg (He.ga K "Play") "Play" playNames := (clsB_ok (sees_chk c 108 (f := ck108) rfl) (He.glo_ok X G (sees_chk c 70 (f := ck70) rfl))).1
  have KLine : Mk K (He.ga K "Line") (He.ma K (He.ga K "Line") "__init__") := He.mkr_ok (sees_chk c 109 (f := ck109) rfl)
  have KWalk : Mk K (He.ga K "Walk") (He.ma K (He.ga K "Walk") "__init__") := He.mkr_ok (sees_chk c 110 (f := ck110) rfl)
  have KCode : Mk K (He.ga K "Code") (He.ma K (He.ga K "Code") "__init__") := He.mkr_ok (sees_chk c 116 (f := ck116) rfl)
  have KState : Mk K (He.ga K "State") (He.ma K (He.ga K "State") "__init__") := He.mkr_ok (sees_chk c 117 (f := ck117) rfl)
  have KPlay : Mk K (He.ga K "Play") (He.ma K (He.ga K "Play") "__init__") := He.mkr_ok (sees_chk c 118 (f := ck118) rfl)
  have SP : RelP K mg (He.ga K "BadRing") (He.ga K "BadHanded") (He.ga K "RingError") := ⟨(He.glo_ok X G (sees_chk c 59 (f := ck59) rfl)), fun C hC => ?e1, fun C hC => ?e2, kit_self, of_decide_eq_true (sees_chk c 148 (f := ck148) rfl), kit_self⟩
  case e1 =>
    simp only [List.mem_cons, List.not_mem_nil, or_false] at hC
    rcases hC with e | e <;> subst e
    · exact of_decide_eq_true (sees_chk c 146 (f := ck146) rfl)
    · exact of_decide_eq_true (sees_chk c 147 (f := ck147) rfl)
  case e2 =>
    simp only [List.mem_cons, List.not_mem_nil, or_false] at hC
    rcases hC with e | e <;> subst e
    · exact exc_mk (sees_chk c 142 (f := ck142) rfl) hn ht
    · exact exc_mk (sees_chk c 145 (f := ck145) rfl) hn ht
  have TG : GB mg := ⟨(He.free_ok X G (sees_chk c 80 (f := ck80) rfl)), (He.free_ok X G (sees_chk c 81 (f := ck81) rfl)), (He.free_ok X G (sees_chk c 83 (f := ck83) rfl)), (He.free_ok X G (sees_chk c 84 (f := ck84) rfl)), (He.free_ok X G (sees_chk c 85 (f := ck85) rfl)), (He.free_ok X G (sees_chk c 86 (f := ck86) rfl)), (He.free_ok X G (sees_chk c 87 (f := ck87) rfl)), (He.free_ok X G (sees_chk c 88 (f := ck88) rfl)), (He.free_ok X G (sees_chk c 89 (f := ck89) rfl)), (He.free_ok X G (sees_chk c 90 (f := ck90) rfl)), (He.free_ok X G (sees_chk c 91 (f := ck91) rfl)), (He.free_ok X G (sees_chk c 92 (f := ck92) rfl)), (He.free_ok X G (sees_chk c 93 (f := ck93) rfl))⟩
  have TR : GT mg := ⟨(He.free_ok X G (sees_chk c 80 (f := ck80) rfl)), (He.free_ok X G (sees_chk c 81 (f := ck81) rfl)), (He.free_ok X G (sees_chk c 82 (f := ck82) rfl)), (He.free_ok X G (sees_chk c 83 (f := ck83) rfl)), (He.free_ok X G (sees_chk c 84 (f := ck84) rfl)), (He.free_ok X G (sees_chk c 85 (f := ck85) rfl)), (He.free_ok X G (sees_chk c 87 (f := ck87) rfl)), (He.free_ok X G (sees_chk c 93 (f := ck93) rfl)), (He.free_ok X G (sees_chk c 88 (f := ck88) rfl)), (He.free_ok X G (sees_chk c 89 (f := ck89) rfl)), (He.free_ok X G (sees_chk c 90 (f := ck90) rfl))⟩
  have BT : BTxt mg := ⟨(He.free_ok X G (sees_chk c 87 (f := ck87) rfl)), (He.free_ok X G (sees_chk c 81 (f := ck81) rfl)), (He.free_ok X G (sees_chk c 85 (f := ck85) rfl))⟩
  have TF : TopF K w mg := ⟨⟨_, (He.glo_ok X G (sees_chk c 79 (f := ck79) rfl)), fun m => pl_ok (sees_chk c 127 (f := ck127) rfl) (sees_pl c) m⟩, (He.int_ok X G (sees_chk c 96 (f := ck96) rfl)), ⟨_, (He.glo_ok X G (sees_chk c 75 (f := ck75) rfl)), fun H => formsB_ok (sees_chk c 123 (f := ck123) rfl) H⟩, ⟨_, (He.glo_ok X G (sees_chk c 76 (f := ck76) rfl)), fun H => formsB_ok (sees_chk c 124 (f := ck124) rfl) H⟩, ⟨_, (He.glo_ok X G (sees_chk c 77 (f := ck77) rfl)), fun H => formsB_ok (sees_chk c 125 (f := ck125) rfl) H⟩, ⟨_, (He.glo_ok X G (sees_chk c 78 (f := ck78) rfl)), fun H => formsB_ok (sees_chk c 126 (f := ck126) rfl) H⟩⟩
  have TC : TopC K mg := ⟨⟨_, (He.glo_ok X G (sees_chk c 71 (f := ck71) rfl)), fun H => strTupB_ok (sees_chk c 119 (f := ck119) rfl) H⟩, ⟨_, (He.glo_ok X G (sees_chk c 72 (f := ck72) rfl)), fun H => strTupB_ok (sees_chk c 120 (f := ck120) rfl) H⟩, (He.int_ok X G (sees_chk c 97 (f := ck97) rfl)), (He.int_ok X G (sees_chk c 98 (f := ck98) rfl)), (He.int_ok X G (sees_chk c 99 (f := ck99) rfl)), (He.int_ok X G (sees_chk c 100 (f := ck100) rfl)), (He.int_ok X G (sees_chk c 101 (f := ck101) rfl)), ⟨_, (He.glo_ok X G (sees_chk c 73 (f := ck73) rfl)), fun H => strTupB_dp (sees_chk c 121 (f := ck121) rfl) H⟩, ⟨_, (He.glo_ok X G (sees_chk c 74 (f := ck74) rfl)), fun H => strTupB_dp (sees_chk c 122 (f := ck122) rfl) H⟩⟩
  have WA : WaysAt K mg := ⟨_, (He.glo_ok X G (sees_chk c 72 (f := ck72) rfl)), fun H => strTupB_ok (sees_chk c 120 (f := ck120) rfl) H⟩
  have SA : ∃ t, mg "STONE" = some (.str "stone" t) := He.str_ok X G (sees_chk c 102 (f := ck102) rfl)
  have DA : DoneAt mg := He.str_ok X G (sees_chk c 103 (f := ck103) rfl)
  have hs : mg "sorted" = none := (He.free_ok X G (sees_chk c 94 (f := ck94) rfl))
  have hz : mg "zip" = none := (He.free_ok X G (sees_chk c 86 (f := ck86) rfl))
  obtain ⟨fd0, F0⟩ : ∃ fd, Fun K "is_whole" "is_whole" s_is_whole (He.ga K "is_whole") fd := DT.fun_ (sees_ft c 0 (d := dt0) rfl) rfl (sees_ok c 0 (d := dt0) rfl)
  have b0 := F0.binds (ps := ["value"]) fun _ _ _ _ _ _ us hl => match us, hl with | [_], _ => rfl
  have R_0 : Raw K mg "is_whole" s_is_whole ["value"] := ⟨_, _, F0, (He.glo_ok X G (sees_chk c 0 (f := ck0) rfl)), b0⟩
  obtain ⟨fd1, F1⟩ : ∃ fd, Fun K "is_pair" "is_pair" s_is_pair (He.ga K "is_pair") fd := DT.fun_ (sees_ft c 1 (d := dt1) rfl) rfl (sees_ok c 1 (d := dt1) rfl)
  have b1 := F1.binds (ps := ["value"]) fun _ _ _ _ _ _ us hl => match us, hl with | [_], _ => rfl
  have R_1 : Raw K mg "is_pair" s_is_pair ["value"] := ⟨_, _, F1, (He.glo_ok X G (sees_chk c 1 (f := ck1) rfl)), b1⟩
  obtain ⟨fd2, F2⟩ : ∃ fd, Fun K "is_item" "is_item" s_is_item (He.ga K "is_item") fd := DT.fun_ (sees_ft c 2 (d := dt2) rfl) rfl (sees_ok c 2 (d := dt2) rfl)
  have b2 := F2.binds (ps := ["value"]) fun _ _ _ _ _ _ us hl => match us, hl with | [_], _ => rfl
  have R_2 : Raw K mg "is_item" s_is_item ["value"] := ⟨_, _, F2, (He.glo_ok X G (sees_chk c 2 (f := ck2) rfl)), b2⟩
  obtain ⟨fd3, F3⟩ : ∃ fd, Fun K "is_row" "is_row" s_is_row (He.ga K "is_row") fd := DT.fun_ (sees_ft c 3 (d := dt3) rfl) rfl (sees_ok c 3 (d := dt3) rfl)
  have b3 := F3.binds (ps := ["value"]) fun _ _ _ _ _ _ us hl => match us, hl with | [_], _ => rfl
  have R_3 : Raw K mg "is_row" s_is_row ["value"] := ⟨_, _, F3, (He.glo_ok X G (sees_chk c 3 (f := ck3) rfl)), b3⟩
  obtain ⟨fd4, F4⟩ : ∃ fd, Fun K "keys_differ" "keys_differ" s_keys_differ (He.ga K "keys_differ") fd := DT.fun_ (sees_ft c 4 (d := dt4) rfl) rfl (sees_ok c 4 (d := dt4) rfl)
  have b4 := F4.binds (ps := ["items"]) fun _ _ _ _ _ _ us hl => match us, hl with | [_], _ => rfl
  have R_4 : Raw K mg "keys_differ" s_keys_differ ["items"] := ⟨_, _, F4, (He.glo_ok X G (sees_chk c 4 (f := ck4) rfl)), b4⟩
  obtain ⟨fd5, F5⟩ : ∃ fd, Fun K "items_of" "items_of" s_items_of (He.ga K "items_of") fd := DT.fun_ (sees_ft c 5 (d := dt5) rfl) rfl (sees_ok c 5 (d := dt5) rfl)
  have b5 := F5.binds (ps := ["rows"]) fun _ _ _ _ _ _ us hl => match us, hl with | [_], _ => rfl
  have R_5 : Raw K mg "items_of" s_items_of ["rows"] := ⟨_, _, F5, (He.glo_ok X G (sees_chk c 5 (f := ck5) rfl)), b5⟩
  obtain ⟨fd6, F6⟩ : ∃ fd, Fun K "is_ring" "is_ring" s_is_ring (He.ga K "is_ring") fd := DT.fun_ (sees_ft c 6 (d := dt6) rfl) rfl (sees_ok c 6 (d := dt6) rfl)
  have b6 := F6.binds (ps := ["value"]) fun _ _ _ _ _ _ us hl => match us, hl with | [_], _ => rfl
  have R_6 : Raw K mg "is_ring" s_is_ring ["value"] := ⟨_, _, F6, (He.glo_ok X G (sees_chk c 6 (f := ck6) rfl)), b6⟩
  obtain ⟨fd7, F7⟩ : ∃ fd, Fun K "is_way" "is_way" s_is_way (He.ga K "is_way") fd := DT.fun_ (sees_ft c 7 (d := dt7) rfl) rfl (sees_ok c 7 (d := dt7) rfl)
  have b7 := F7.binds (ps := ["value"]) fun _ _ _ _ _ _ us hl => match us, hl with | [_], _ => rfl
  have R_7 : Raw K mg "is_way" s_is_way ["value"] := ⟨_, _, F7, (He.glo_ok X G (sees_chk c 7 (f := ck7) rfl)), b7⟩
  obtain ⟨fd8, F8⟩ : ∃ fd, Fun K "check_ring" "check_ring" s_check_ring (He.ga K "check_ring") fd := DT.fun_ (sees_ft c 8 (d := dt8) rfl) rfl (sees_ok c 8 (d := dt8) rfl)
  have b8 := F8.binds (ps := ["ring"]) fun _ _ _ _ _ _ us hl => match us, hl with | [_], _ => rfl
  have R_8 : Raw K mg "check_ring" s_check_ring ["ring"] := ⟨_, _, F8, (He.glo_ok X G (sees_chk c 8 (f := ck8) rfl)), b8⟩
  obtain ⟨fd9, F9⟩ : ∃ fd, Fun K "check_way" "check_way" s_check_way (He.ga K "check_way") fd := DT.fun_ (sees_ft c 9 (d := dt9) rfl) rfl (sees_ok c 9 (d := dt9) rfl)
  have b9 := F9.binds (ps := ["way"]) fun _ _ _ _ _ _ us hl => match us, hl with | [_], _ => rfl
  have R_9 : Raw K mg "check_way" s_check_way ["way"] := ⟨_, _, F9, (He.glo_ok X G (sees_chk c 9 (f := ck9) rfl)), b9⟩
  obtain ⟨fd10, F10⟩ : ∃ fd, Fun K "home" "home" s_home (He.ga K "home") fd := DT.fun_ (sees_ft c 10 (d := dt10) rfl) rfl (sees_ok c 10 (d := dt10) rfl)
  have b10 := F10.binds (ps := ["item", "many"]) fun _ _ _ _ _ _ us hl => match us, hl with | [_, _], _ => rfl
  have R_10 : Raw K mg "home" s_home ["item", "many"] := ⟨_, _, F10, (He.glo_ok X G (sees_chk c 10 (f := ck10) rfl)), b10⟩
  obtain ⟨fd11, F11⟩ : ∃ fd, Fun K "distance" "distance" s_distance (He.ga K "distance") fd := DT.fun_ (sees_ft c 11 (d := dt11) rfl) rfl (sees_ok c 11 (d := dt11) rfl)
  have b11 := F11.binds (ps := ["one", "other", "many"]) fun _ _ _ _ _ _ us hl => match us, hl with | [_, _, _], _ => rfl
  have R_11 : Raw K mg "distance" s_distance ["one", "other", "many"] := ⟨_, _, F11, (He.glo_ok X G (sees_chk c 11 (f := ck11) rfl)), b11⟩
  obtain ⟨fd12, F12⟩ : ∃ fd, Fun K "gap" "gap" s_gap (He.ga K "gap") fd := DT.fun_ (sees_ft c 12 (d := dt12) rfl) rfl (sees_ok c 12 (d := dt12) rfl)
  have b12 := F12.binds (ps := ["rows", "row"]) fun _ _ _ _ _ _ us hl => match us, hl with | [_, _], _ => rfl
  have R_12 : Raw K mg "gap" s_gap ["rows", "row"] := ⟨_, _, F12, (He.glo_ok X G (sees_chk c 12 (f := ck12) rfl)), b12⟩
  obtain ⟨fd13, F13⟩ : ∃ fd, Fun K "runs" "runs" s_runs (He.ga K "runs") fd := DT.fun_ (sees_ft c 13 (d := dt13) rfl) rfl (sees_ok c 13 (d := dt13) rfl)
  have b13 := F13.binds (ps := ["ring"]) fun _ _ _ _ _ _ us hl => match us, hl with | [_], _ => rfl
  have R_13 : Raw K mg "runs" s_runs ["ring"] := ⟨_, _, F13, (He.glo_ok X G (sees_chk c 13 (f := ck13) rfl)), b13⟩
  obtain ⟨fd14, F14⟩ : ∃ fd, Fun K "all_items" "all_items" s_all_items (He.ga K "all_items") fd := DT.fun_ (sees_ft c 14 (d := dt14) rfl) rfl (sees_ok c 14 (d := dt14) rfl)
  have b14 := F14.binds (ps := ["ring"]) fun _ _ _ _ _ _ us hl => match us, hl with | [_], _ => rfl
  have R_14 : Raw K mg "all_items" s_all_items ["ring"] := ⟨_, _, F14, (He.glo_ok X G (sees_chk c 14 (f := ck14) rfl)), b14⟩
  obtain ⟨fd15, F15⟩ : ∃ fd, Fun K "is_reached" "is_reached" s_is_reached (He.ga K "is_reached") fd := DT.fun_ (sees_ft c 15 (d := dt15) rfl) rfl (sees_ok c 15 (d := dt15) rfl)
  have b15 := F15.binds (ps := ["ring"]) fun _ _ _ _ _ _ us hl => match us, hl with | [_], _ => rfl
  have R_15 : Raw K mg "is_reached" s_is_reached ["ring"] := ⟨_, _, F15, (He.glo_ok X G (sees_chk c 15 (f := ck15) rfl)), b15⟩
  obtain ⟨fd16, F16⟩ : ∃ fd, Fun K "is_in_order" "is_in_order" s_is_in_order (He.ga K "is_in_order") fd := DT.fun_ (sees_ft c 16 (d := dt16) rfl) rfl (sees_ok c 16 (d := dt16) rfl)
  have b16 := F16.binds (ps := ["ring"]) fun _ _ _ _ _ _ us hl => match us, hl with | [_], _ => rfl
  have R_16 : Raw K mg "is_in_order" s_is_in_order ["ring"] := ⟨_, _, F16, (He.glo_ok X G (sees_chk c 16 (f := ck16) rfl)), b16⟩
  obtain ⟨fd17, F17⟩ : ∃ fd, Fun K "is_lawful" "is_lawful" s_is_lawful (He.ga K "is_lawful") fd := DT.fun_ (sees_ft c 17 (d := dt17) rfl) rfl (sees_ok c 17 (d := dt17) rfl)
  have b17 := F17.binds (ps := ["ring", "way"]) fun _ _ _ _ _ _ us hl => match us, hl with | [_, _], _ => rfl
  have R_17 : Raw K mg "is_lawful" s_is_lawful ["ring", "way"] := ⟨_, _, F17, (He.glo_ok X G (sees_chk c 17 (f := ck17) rfl)), b17⟩
  obtain ⟨fd18, F18⟩ : ∃ fd, Fun K "set_register" "set_register" s_set_register (He.ga K "set_register") fd := DT.fun_ (sees_ft c 18 (d := dt18) rfl) rfl (sees_ok c 18 (d := dt18) rfl)
  have b18 := F18.binds (ps := ["state", "words"]) fun _ _ _ _ _ _ us hl => match us, hl with | [_, _], _ => rfl
  have R_18 : Raw K mg "set_register" s_set_register ["state", "words"] := ⟨_, _, F18, (He.glo_ok X G (sees_chk c 18 (f := ck18) rfl)), b18⟩
  obtain ⟨fd19, F19⟩ : ∃ fd, Fun K "do_line" "do_line" s_do_line (He.ga K "do_line") fd := DT.fun_ (sees_ft c 19 (d := dt19) rfl) rfl (sees_ok c 19 (d := dt19) rfl)
  have b19 := F19.binds (ps := ["state", "form", "words"]) fun _ _ _ _ _ _ us hl => match us, hl with | [_, _, _], _ => rfl
  have R_19 : Raw K mg "do_line" s_do_line ["state", "form", "words"] := ⟨_, _, F19, (He.glo_ok X G (sees_chk c 19 (f := ck19) rfl)), b19⟩
  obtain ⟨fd20, F20⟩ : ∃ fd, Fun K "play_lines" "play_lines" s_play_lines (He.ga K "play_lines") fd := DT.fun_ (sees_ft c 20 (d := dt20) rfl) rfl (sees_ok c 20 (d := dt20) rfl)
  have b20 := F20.binds (ps := ["state"]) fun _ _ _ _ _ _ us hl => match us, hl with | [_], _ => rfl
  have R_20 : Raw K mg "play_lines" s_play_lines ["state"] := ⟨_, _, F20, (He.glo_ok X G (sees_chk c 20 (f := ck20) rfl)), b20⟩
  obtain ⟨fd21, F21⟩ : ∃ fd, Fun K "owed_items" "owed_items" s_owed_items (He.ga K "owed_items") fd := DT.fun_ (sees_ft c 21 (d := dt21) rfl) rfl (sees_ok c 21 (d := dt21) rfl)
  have b21 := F21.binds (ps := ["kind", "ring", "handed"]) fun _ _ _ _ _ _ us hl => match us, hl with | [_, _, _], _ => rfl
  have R_21 : Raw K mg "owed_items" s_owed_items ["kind", "ring", "handed"] := ⟨_, _, F21, (He.glo_ok X G (sees_chk c 21 (f := ck21) rfl)), b21⟩
  obtain ⟨fd22, F22⟩ : ∃ fd, Fun K "leaves_owed" "leaves_owed" s_leaves_owed (He.ga K "leaves_owed") fd := DT.fun_ (sees_ft c 22 (d := dt22) rfl) rfl (sees_ok c 22 (d := dt22) rfl)
  have b22 := F22.binds (ps := ["kind", "ring", "handed", "left"]) fun _ _ _ _ _ _ us hl => match us, hl with | [_, _, _, _], _ => rfl
  have R_22 : Raw K mg "leaves_owed" s_leaves_owed ["kind", "ring", "handed", "left"] := ⟨_, _, F22, (He.glo_ok X G (sees_chk c 22 (f := ck22) rfl)), b22⟩
  obtain ⟨fd23, F23⟩ : ∃ fd, Fun K "owed_row" "owed_row" s_owed_row (He.ga K "owed_row") fd := DT.fun_ (sees_ft c 23 (d := dt23) rfl) rfl (sees_ok c 23 (d := dt23) rfl)
  have b23 := F23.binds (ps := ["ring", "key"]) fun _ _ _ _ _ _ us hl => match us, hl with | [_, _], _ => rfl
  have R_23 : Raw K mg "owed_row" s_owed_row ["ring", "key"] := ⟨_, _, F23, (He.glo_ok X G (sees_chk c 23 (f := ck23) rfl)), b23⟩
  obtain ⟨fd24, F24⟩ : ∃ fd, Fun K "is_steady" "is_steady" s_is_steady (He.ga K "is_steady") fd := DT.fun_ (sees_ft c 24 (d := dt24) rfl) rfl (sees_ok c 24 (d := dt24) rfl)
  have b24 := F24.binds (ps := ["kind", "ring", "handed", "left"]) fun _ _ _ _ _ _ us hl => match us, hl with | [_, _, _, _], _ => rfl
  have R_24 : Raw K mg "is_steady" s_is_steady ["kind", "ring", "handed", "left"] := ⟨_, _, F24, (He.glo_ok X G (sees_chk c 24 (f := ck24) rfl)), b24⟩
  obtain ⟨fd25, F25⟩ : ∃ fd, Fun K "broken_promises" "broken_promises" s_broken_promises (He.ga K "broken_promises") fd := DT.fun_ (sees_ft c 25 (d := dt25) rfl) rfl (sees_ok c 25 (d := dt25) rfl)
  have b25 := F25.binds (ps := ["state", "ended", "handed"]) fun _ _ _ _ _ _ us hl => match us, hl with | [_, _, _], _ => rfl
  have R_25 : Raw K mg "broken_promises" s_broken_promises ["state", "ended", "handed"] := ⟨_, _, F25, (He.glo_ok X G (sees_chk c 25 (f := ck25) rfl)), b25⟩
  obtain ⟨fd26, F26⟩ : ∃ fd, Fun K "can_be_played" "can_be_played" s_can_be_played (He.ga K "can_be_played") fd := DT.fun_ (sees_ft c 26 (d := dt26) rfl) rfl (sees_ok c 26 (d := dt26) rfl)
  have b26 := F26.binds (ps := ["code", "ring"]) fun _ _ _ _ _ _ us hl => match us, hl with | [_, _], _ => rfl
  have R_26 : Raw K mg "can_be_played" s_can_be_played ["code", "ring"] := ⟨_, _, F26, (He.glo_ok X G (sees_chk c 26 (f := ck26) rfl)), b26⟩
  obtain ⟨fd27, F27⟩ : ∃ fd, Fun K "can_be_handed" "can_be_handed" s_can_be_handed (He.ga K "can_be_handed") fd := DT.fun_ (sees_ft c 27 (d := dt27) rfl) rfl (sees_ok c 27 (d := dt27) rfl)
  have b27 := F27.binds (ps := ["kind", "ring", "handed"]) fun _ _ _ _ _ _ us hl => match us, hl with | [_, _, _], _ => rfl
  have R_27 : Raw K mg "can_be_handed" s_can_be_handed ["kind", "ring", "handed"] := ⟨_, _, F27, (He.glo_ok X G (sees_chk c 27 (f := ck27) rfl)), b27⟩
  obtain ⟨fd28, F28⟩ : ∃ fd, Fun K "play" "play" s_play (He.ga K "play") fd := DT.fun_ (sees_ft c 28 (d := dt28) rfl) rfl (sees_ok c 28 (d := dt28) rfl)
  have b28 := F28.binds (ps := ["code", "ring", "handed"]) fun _ _ _ _ _ _ us hl => match us, hl with | [_, _, _], _ => rfl
  have R_28 : Raw K mg "play" s_play ["code", "ring", "handed"] := ⟨_, _, F28, (He.glo_ok X G (sees_chk c 28 (f := ck28) rfl)), b28⟩
  obtain ⟨fd29, F29⟩ : ∃ fd, Fun K "is_count" "is_count" s_is_count (He.ga K "is_count") fd := DT.fun_ (sees_ft c 29 (d := dt29) rfl) rfl (sees_ok c 29 (d := dt29) rfl)
  have b29 := F29.binds (ps := ["word"]) fun _ _ _ _ _ _ us hl => match us, hl with | [_], _ => rfl
  have R_29 : Raw K mg "is_count" s_is_count ["word"] := ⟨_, _, F29, (He.glo_ok X G (sees_chk c 29 (f := ck29) rfl)), b29⟩
  obtain ⟨fd30, F30⟩ : ∃ fd, Fun K "fits" "fits" s_fits (He.ga K "fits") fd := DT.fun_ (sees_ft c 30 (d := dt30) rfl) rfl (sees_ok c 30 (d := dt30) rfl)
  have b30 := F30.binds (ps := ["mark", "word"]) fun _ _ _ _ _ _ us hl => match us, hl with | [_, _], _ => rfl
  have R_30 : Raw K mg "fits" s_fits ["mark", "word"] := ⟨_, _, F30, (He.glo_ok X G (sees_chk c 30 (f := ck30) rfl)), b30⟩
  obtain ⟨fd31, F31⟩ : ∃ fd, Fun K "filled" "filled" s_filled (He.ga K "filled") fd := DT.fun_ (sees_ft c 31 (d := dt31) rfl) rfl (sees_ok c 31 (d := dt31) rfl)
  have b31 := F31.binds (ps := ["form", "words"]) fun _ _ _ _ _ _ us hl => match us, hl with | [_, _], _ => rfl
  have R_31 : Raw K mg "filled" s_filled ["form", "words"] := ⟨_, _, F31, (He.glo_ok X G (sees_chk c 31 (f := ck31) rfl)), b31⟩
  obtain ⟨fd32, F32⟩ : ∃ fd, Fun K "first_filled" "first_filled" s_first_filled (He.ga K "first_filled") fd := DT.fun_ (sees_ft c 32 (d := dt32) rfl) rfl (sees_ok c 32 (d := dt32) rfl)
  have b32 := F32.binds (ps := ["forms", "words"]) fun _ _ _ _ _ _ us hl => match us, hl with | [_, _], _ => rfl
  have R_32 : Raw K mg "first_filled" s_first_filled ["forms", "words"] := ⟨_, _, F32, (He.glo_ok X G (sees_chk c 32 (f := ck32) rfl)), b32⟩
  obtain ⟨fd33, F33⟩ : ∃ fd, Fun K "read_part" "read_part" s_read_part (He.ga K "read_part") fd := DT.fun_ (sees_ft c 33 (d := dt33) rfl) rfl (sees_ok c 33 (d := dt33) rfl)
  have b33 := F33.binds (ps := ["words"]) fun _ _ _ _ _ _ us hl => match us, hl with | [_], _ => rfl
  have R_33 : Raw K mg "read_part" s_read_part ["words"] := ⟨_, _, F33, (He.glo_ok X G (sees_chk c 33 (f := ck33) rfl)), b33⟩
  obtain ⟨fd34, F34⟩ : ∃ fd, Fun K "read_test" "read_test" s_read_test (He.ga K "read_test") fd := DT.fun_ (sees_ft c 34 (d := dt34) rfl) rfl (sees_ok c 34 (d := dt34) rfl)
  have b34 := F34.binds (ps := ["words"]) fun _ _ _ _ _ _ us hl => match us, hl with | [_], _ => rfl
  have R_34 : Raw K mg "read_test" s_read_test ["words"] := ⟨_, _, F34, (He.glo_ok X G (sees_chk c 34 (f := ck34) rfl)), b34⟩
  obtain ⟨fd35, F35⟩ : ∃ fd, Fun K "read_line" "read_line" s_read_line (He.ga K "read_line") fd := DT.fun_ (sees_ft c 35 (d := dt35) rfl) rfl (sees_ok c 35 (d := dt35) rfl)
  have b35 := F35.binds (ps := ["text", "in_loop"]) fun _ _ _ _ _ _ us hl => match us, hl with | [_, _], _ => rfl
  have R_35 : Raw K mg "read_line" s_read_line ["text", "in_loop"] := ⟨_, _, F35, (He.glo_ok X G (sees_chk c 35 (f := ck35) rfl)), b35⟩
  obtain ⟨fd36, F36⟩ : ∃ fd, Fun K "read_turn" "read_turn" s_read_turn (He.ga K "read_turn") fd := DT.fun_ (sees_ft c 36 (d := dt36) rfl) rfl (sees_ok c 36 (d := dt36) rfl)
  have b36 := F36.binds (ps := ["word", "number", "lines", "opened"]) fun _ _ _ _ _ _ us hl => match us, hl with | [_, _, _, _], _ => rfl
  have R_36 : Raw K mg "read_turn" s_read_turn ["word", "number", "lines", "opened"] := ⟨_, _, F36, (He.glo_ok X G (sees_chk c 36 (f := ck36) rfl)), b36⟩
  obtain ⟨fd37, F37⟩ : ∃ fd, Fun K "loop_around" "loop_around" s_loop_around (He.ga K "loop_around") fd := DT.fun_ (sees_ft c 37 (d := dt37) rfl) rfl (sees_ok c 37 (d := dt37) rfl)
  have b37 := F37.binds (ps := ["lines", "opened"]) fun _ _ _ _ _ _ us hl => match us, hl with | [_, _], _ => rfl
  have R_37 : Raw K mg "loop_around" s_loop_around ["lines", "opened"] := ⟨_, _, F37, (He.glo_ok X G (sees_chk c 37 (f := ck37) rfl)), b37⟩
  obtain ⟨fd38, F38⟩ : ∃ fd, Fun K "read_lines" "read_lines" s_read_lines (He.ga K "read_lines") fd := DT.fun_ (sees_ft c 38 (d := dt38) rfl) rfl (sees_ok c 38 (d := dt38) rfl)
  have b38 := F38.binds (ps := ["texts"]) fun _ _ _ _ _ _ us hl => match us, hl with | [_], _ => rfl
  have R_38 : Raw K mg "read_lines" s_read_lines ["texts"] := ⟨_, _, F38, (He.glo_ok X G (sees_chk c 38 (f := ck38) rfl)), b38⟩
  obtain ⟨fd39, F39⟩ : ∃ fd, Fun K "landing" "landing" s_landing (He.ga K "landing") fd := DT.fun_ (sees_ft c 39 (d := dt39) rfl) rfl (sees_ok c 39 (d := dt39) rfl)
  have b39 := F39.binds (ps := ["lines", "number"]) fun _ _ _ _ _ _ us hl => match us, hl with | [_, _], _ => rfl
  have R_39 : Raw K mg "landing" s_landing ["lines", "number"] := ⟨_, _, F39, (He.glo_ok X G (sees_chk c 39 (f := ck39) rfl)), b39⟩
  obtain ⟨fd40, F40⟩ : ∃ fd, Fun K "link" "link" s_link (He.ga K "link") fd := DT.fun_ (sees_ft c 40 (d := dt40) rfl) rfl (sees_ok c 40 (d := dt40) rfl)
  have b40 := F40.binds (ps := ["lines", "number"]) fun _ _ _ _ _ _ us hl => match us, hl with | [_, _], _ => rfl
  have R_40 : Raw K mg "link" s_link ["lines", "number"] := ⟨_, _, F40, (He.glo_ok X G (sees_chk c 40 (f := ck40) rfl)), b40⟩
  obtain ⟨fd41, F41⟩ : ∃ fd, Fun K "read_program" "read_program" s_read_program (He.ga K "read_program") fd := DT.fun_ (sees_ft c 41 (d := dt41) rfl) rfl (sees_ok c 41 (d := dt41) rfl)
  have b41 := F41.binds (ps := ["texts"]) fun _ _ _ _ _ _ us hl => match us, hl with | [_], _ => rfl
  have R_41 : Raw K mg "read_program" s_read_program ["texts"] := ⟨_, _, F41, (He.glo_ok X G (sees_chk c 41 (f := ck41) rfl)), b41⟩
  obtain ⟨fd42, F42⟩ : ∃ fd, Fun K "is_kind" "is_kind" s_is_kind (He.ga K "is_kind") fd := DT.fun_ (sees_ft c 42 (d := dt42) rfl) rfl (sees_ok c 42 (d := dt42) rfl)
  have b42 := F42.binds (ps := ["value"]) fun _ _ _ _ _ _ us hl => match us, hl with | [_], _ => rfl
  have R_42 : Raw K mg "is_kind" s_is_kind ["value"] := ⟨_, _, F42, (He.glo_ok X G (sees_chk c 42 (f := ck42) rfl)), b42⟩
  obtain ⟨fd43, F43⟩ : ∃ fd, Fun K "lines_of" "lines_of" s_lines_of (He.ga K "lines_of") fd := DT.fun_ (sees_ft c 43 (d := dt43) rfl) rfl (sees_ok c 43 (d := dt43) rfl)
  have b43 := F43.binds (ps := ["text"]) fun _ _ _ _ _ _ us hl => match us, hl with | [_], _ => rfl
  have R_43 : Raw K mg "lines_of" s_lines_of ["text"] := ⟨_, _, F43, (He.glo_ok X G (sees_chk c 43 (f := ck43) rfl)), b43⟩
  obtain ⟨fd44, F44⟩ : ∃ fd, Fun K "barred_words" "barred_words" s_barred_words (He.ga K "barred_words") fd := DT.fun_ (sees_ft c 44 (d := dt44) rfl) rfl (sees_ok c 44 (d := dt44) rfl)
  have b44 := F44.binds (ps := ["kind", "way"]) fun _ _ _ _ _ _ us hl => match us, hl with | [_, _], _ => rfl
  have R_44 : Raw K mg "barred_words" s_barred_words ["kind", "way"] := ⟨_, _, F44, (He.glo_ok X G (sees_chk c 44 (f := ck44) rfl)), b44⟩
  obtain ⟨fd45, F45⟩ : ∃ fd, Fun K "barred_lines" "barred_lines" s_barred_lines (He.ga K "barred_lines") fd := DT.fun_ (sees_ft c 45 (d := dt45) rfl) rfl (sees_ok c 45 (d := dt45) rfl)
  have b45 := F45.binds (ps := ["kind", "way", "texts"]) fun _ _ _ _ _ _ us hl => match us, hl with | [_, _, _], _ => rfl
  have R_45 : Raw K mg "barred_lines" s_barred_lines ["kind", "way", "texts"] := ⟨_, _, F45, (He.glo_ok X G (sees_chk c 45 (f := ck45) rfl)), b45⟩
  obtain ⟨fd46, F46⟩ : ∃ fd, Fun K "all_ways" "all_ways" s_all_ways (He.ga K "all_ways") fd := DT.fun_ (sees_ft c 46 (d := dt46) rfl) rfl (sees_ok c 46 (d := dt46) rfl)
  have b46 := F46.binds (ps := ["program"]) fun _ _ _ _ _ _ us hl => match us, hl with | [_], _ => rfl
  have R_46 : Raw K mg "all_ways" s_all_ways ["program"] := ⟨_, _, F46, (He.glo_ok X G (sees_chk c 46 (f := ck46) rfl)), b46⟩
  obtain ⟨fd47, F47⟩ : ∃ fd, Fun K "behind_go" "behind_go" s_behind_go (He.ga K "behind_go") fd := DT.fun_ (sees_ft c 47 (d := dt47) rfl) rfl (sees_ok c 47 (d := dt47) rfl)
  have b47 := F47.binds (ps := ["program", "head"]) fun _ _ _ _ _ _ us hl => match us, hl with | [_, _], _ => rfl
  have R_47 : Raw K mg "behind_go" s_behind_go ["program", "head"] := ⟨_, _, F47, (He.glo_ok X G (sees_chk c 47 (f := ck47) rfl)), b47⟩
  obtain ⟨fd48, F48⟩ : ∃ fd, Fun K "refused_on" "refused_on" s_refused_on (He.ga K "refused_on") fd := DT.fun_ (sees_ft c 48 (d := dt48) rfl) rfl (sees_ok c 48 (d := dt48) rfl)
  have b48 := F48.binds (ps := ["kind", "program", "way"]) fun _ _ _ _ _ _ us hl => match us, hl with | [_, _, _], _ => rfl
  have R_48 : Raw K mg "refused_on" s_refused_on ["kind", "program", "way"] := ⟨_, _, F48, (He.glo_ok X G (sees_chk c 48 (f := ck48) rfl)), b48⟩
  obtain ⟨fd49, F49⟩ : ∃ fd, Fun K "refused_lines" "refused_lines" s_refused_lines (He.ga K "refused_lines") fd := DT.fun_ (sees_ft c 49 (d := dt49) rfl) rfl (sees_ok c 49 (d := dt49) rfl)
  have b49 := F49.binds (ps := ["kind", "way", "texts", "program"]) fun _ _ _ _ _ _ us hl => match us, hl with | [_, _, _, _], _ => rfl
  have R_49 : Raw K mg "refused_lines" s_refused_lines ["kind", "way", "texts", "program"] := ⟨_, _, F49, (He.glo_ok X G (sees_chk c 49 (f := ck49) rfl)), b49⟩
  obtain ⟨fd50, F50⟩ : ∃ fd, Fun K "outer_ifs" "outer_ifs" s_outer_ifs (He.ga K "outer_ifs") fd := DT.fun_ (sees_ft c 50 (d := dt50) rfl) rfl (sees_ok c 50 (d := dt50) rfl)
  have b50 := F50.binds (ps := ["program"]) fun _ _ _ _ _ _ us hl => match us, hl with | [_], _ => rfl
  have R_50 : Raw K mg "outer_ifs" s_outer_ifs ["program"] := ⟨_, _, F50, (He.glo_ok X G (sees_chk c 50 (f := ck50) rfl)), b50⟩
  obtain ⟨fd51, F51⟩ : ∃ fd, Fun K "_law_bag" "_law_bag" s__law_bag (He.ga K "_law_bag") fd := DT.fun_ (sees_ft c 51 (d := dt51) rfl) rfl (sees_ok c 51 (d := dt51) rfl)
  have b51 := F51.binds (ps := ["script"]) fun _ _ _ _ _ _ us hl => match us, hl with | [_], _ => rfl
  have R_51 : Raw K mg "_law_bag" s__law_bag ["script"] := ⟨_, _, F51, (He.glo_ok X G (sees_chk c 51 (f := ck51) rfl)), b51⟩
  obtain ⟨fd52, F52⟩ : ∃ fd, Fun K "_law_draw" "_law_draw" s__law_draw (He.ga K "_law_draw") fd := DT.fun_ (sees_ft c 52 (d := dt52) rfl) rfl (sees_ok c 52 (d := dt52) rfl)
  have b52 := F52.binds (ps := ["bag", "limit"]) fun _ _ _ _ _ _ us hl => match us, hl with | [_, _], _ => rfl
  have R_52 : Raw K mg "_law_draw" s__law_draw ["bag", "limit"] := ⟨_, _, F52, (He.glo_ok X G (sees_chk c 52 (f := ck52) rfl)), b52⟩
  obtain ⟨fd53, F53⟩ : ∃ fd, Fun K "_law_ring" "_law_ring" s__law_ring (He.ga K "_law_ring") fd := DT.fun_ (sees_ft c 53 (d := dt53) rfl) rfl (sees_ok c 53 (d := dt53) rfl)
  have b53 := F53.binds (ps := ["bag", "way", "m", "spare"]) fun _ _ _ _ _ _ us hl => match us, hl with | [_, _, _, _], _ => rfl
  have R_53 : Raw K mg "_law_ring" s__law_ring ["bag", "way", "m", "spare"] := ⟨_, _, F53, (He.glo_ok X G (sees_chk c 53 (f := ck53) rfl)), b53⟩
  obtain ⟨fd54, F54⟩ : ∃ fd, Fun K "_law_thing" "_law_thing" s__law_thing (He.ga K "_law_thing") fd := DT.fun_ (sees_ft c 54 (d := dt54) rfl) rfl (sees_ok c 54 (d := dt54) rfl)
  have b54 := F54.binds (ps := ["bag", "kind", "ring"]) fun _ _ _ _ _ _ us hl => match us, hl with | [_, _, _], _ => rfl
  have R_54 : Raw K mg "_law_thing" s__law_thing ["bag", "kind", "ring"] := ⟨_, _, F54, (He.glo_ok X G (sees_chk c 54 (f := ck54) rfl)), b54⟩
  obtain ⟨fd55, F55⟩ : ∃ fd, Fun K "_law_told" "_law_told" s__law_told (He.ga K "_law_told") fd := DT.fun_ (sees_ft c 55 (d := dt55) rfl) rfl (sees_ok c 55 (d := dt55) rfl)
  have b55 := F55.binds (ps := ["code", "ring", "thing"]) fun _ _ _ _ _ _ us hl => match us, hl with | [_, _, _], _ => rfl
  have R_55 : Raw K mg "_law_told" s__law_told ["code", "ring", "thing"] := ⟨_, _, F55, (He.glo_ok X G (sees_chk c 55 (f := ck55) rfl)), b55⟩
  obtain ⟨fd56, F56⟩ : ∃ fd, Fun K "_law_odd_ring" "_law_odd_ring" s__law_odd_ring (He.ga K "_law_odd_ring") fd := DT.fun_ (sees_ft c 56 (d := dt56) rfl) rfl (sees_ok c 56 (d := dt56) rfl)
  have b56 := F56.binds (ps := ["bag", "way", "kind", "rows"]) fun _ _ _ _ _ _ us hl => match us, hl with | [_, _, _, _], _ => rfl
  have R_56 : Raw K mg "_law_odd_ring" s__law_odd_ring ["bag", "way", "kind", "rows"] := ⟨_, _, F56, (He.glo_ok X G (sees_chk c 56 (f := ck56) rfl)), b56⟩
  obtain ⟨fd57, F57⟩ : ∃ fd, Fun K "_law_bad_handed" "_law_bad_handed" s__law_bad_handed (He.ga K "_law_bad_handed") fd := DT.fun_ (sees_ft c 57 (d := dt57) rfl) rfl (sees_ok c 57 (d := dt57) rfl)
  have b57 := F57.binds (ps := ["bag", "kind", "ring"]) fun _ _ _ _ _ _ us hl => match us, hl with | [_, _, _], _ => rfl
  have R_57 : Raw K mg "_law_bad_handed" s__law_bad_handed ["bag", "kind", "ring"] := ⟨_, _, F57, (He.glo_ok X G (sees_chk c 57 (f := ck57) rfl)), b57⟩
  obtain ⟨fd58, F58⟩ : ∃ fd, Fun K "law" "law" s_law (He.ga K "law") fd := DT.fun_ (sees_ft c 58 (d := dt58) rfl) rfl (sees_ok c 58 (d := dt58) rfl)
  obtain ⟨md0, M0⟩ : ∃ fd, Fun K "__init__" "Line.__init__" s_Line_init (He.ma K (He.ga K "Line") "__init__") fd := DT.fun_ (sees_ft c 59 (d := dt59) rfl) rfl (sees_ok c 59 (d := dt59) rfl)
  have mb0 := M0.binds (ps := ["self", "form", "words", "test"]) fun _ _ _ _ _ _ us hl => match us, hl with | [_, _, _, _], _ => rfl
  obtain ⟨md1, M1⟩ : ∃ fd, Fun K "__init__" "Walk.__init__" s_Walk_init (He.ma K (He.ga K "Walk") "__init__") fd := DT.fun_ (sees_ft c 60 (d := dt60) rfl) rfl (sees_ok c 60 (d := dt60) rfl)
  have mb1 := M1.binds (ps := ["self", "kind", "program", "way"]) fun _ _ _ _ _ _ us hl => match us, hl with | [_, _, _, _], _ => rfl
  obtain ⟨md2, M2⟩ : ∃ fd, Fun K "is_behind_loops" "Walk.is_behind_loops" s_Walk_is_behind_loops (He.ma K (He.ga K "Walk") "is_behind_loops") fd := DT.fun_ (sees_ft c 61 (d := dt61) rfl) rfl (sees_ok c 61 (d := dt61) rfl)
  have mb2 := M2.binds (ps := ["self"]) fun _ _ _ _ _ _ us hl => match us, hl with | [_], _ => rfl
  obtain ⟨md3, M3⟩ : ∃ fd, Fun K "may_place" "Walk.may_place" s_Walk_may_place (He.ma K (He.ga K "Walk") "may_place") fd := DT.fun_ (sees_ft c 62 (d := dt62) rfl) rfl (sees_ok c 62 (d := dt62) rfl)
  have mb3 := M3.binds (ps := ["self", "line"]) fun _ _ _ _ _ _ us hl => match us, hl with | [_, _], _ => rfl
  obtain ⟨md4, M4⟩ : ∃ fd, Fun K "meet_loop" "Walk.meet_loop" s_Walk_meet_loop (He.ma K (He.ga K "Walk") "meet_loop") fd := DT.fun_ (sees_ft c 63 (d := dt63) rfl) rfl (sees_ok c 63 (d := dt63) rfl)
  have mb4 := M4.binds (ps := ["self", "number"]) fun _ _ _ _ _ _ us hl => match us, hl with | [_, _], _ => rfl
  obtain ⟨md5, M5⟩ : ∃ fd, Fun K "meet_early_setting" "Walk.meet_early_setting" s_Walk_meet_early_setting (He.ma K (He.ga K "Walk") "meet_early_setting") fd := DT.fun_ (sees_ft c 64 (d := dt64) rfl) rfl (sees_ok c 64 (d := dt64) rfl)
  have mb5 := M5.binds (ps := ["self", "number", "line"]) fun _ _ _ _ _ _ us hl => match us, hl with | [_, _, _], _ => rfl
  obtain ⟨md6, M6⟩ : ∃ fd, Fun K "meet_late_setting" "Walk.meet_late_setting" s_Walk_meet_late_setting (He.ma K (He.ga K "Walk") "meet_late_setting") fd := DT.fun_ (sees_ft c 65 (d := dt65) rfl) rfl (sees_ok c 65 (d := dt65) rfl)
  have mb6 := M6.binds (ps := ["self", "number", "line"]) fun _ _ _ _ _ _ us hl => match us, hl with | [_, _, _], _ => rfl
  obtain ⟨md7, M7⟩ : ∃ fd, Fun K "__init__" "Code.__init__" s_Code_init (He.ma K (He.ga K "Code") "__init__") fd := DT.fun_ (sees_ft c 66 (d := dt66) rfl) rfl (sees_ok c 66 (d := dt66) rfl)
  have mb7 := M7.binds (ps := ["self", "kind", "way", "text"]) fun _ _ _ _ _ _ us hl => match us, hl with | [_, _, _, _], _ => rfl
  obtain ⟨md8, M8⟩ : ∃ fd, Fun K "__init__" "State.__init__" s_State_init (He.ma K (He.ga K "State") "__init__") fd := DT.fun_ (sees_ft c 67 (d := dt67) rfl) rfl (sees_ok c 67 (d := dt67) rfl)
  have mb8 := M8.binds (ps := ["self", "code", "ring", "handed"]) fun _ _ _ _ _ _ us hl => match us, hl with | [_, _, _, _], _ => rfl
  obtain ⟨md9, M9⟩ : ∃ fd, Fun K "__init__" "Play.__init__" s_Play_init (He.ma K (He.ga K "Play") "__init__") fd := DT.fun_ (sees_ft c 68 (d := dt68) rfl) rfl (sees_ok c 68 (d := dt68) rfl)
  have mb9 := M9.binds (ps := ["self", "state", "ended", "broken"]) fun _ _ _ _ _ _ us hl => match us, hl with | [_, _, _, _], _ => rfl
  have e := hfa.symm.trans (He.glo_ok X G (sees_chk c 58 (f := ck58) rfl))
  cases e
  obtain ⟨oc_, od_, kV_, doc_, pm_, an_, cdv_, ct_, osl_, eF, lF, cF⟩ := id F58.ex
  refine ⟨fd58, fun s v => by rw [eF]; exact .of_eq rfl, fun base _ _ => ?_⟩
  have dWhole : Def P7 w K mg base CX0 "is_whole" 1 ["value"] (spB K Rg.wholeD) := ok_whole R_0 TR
  have dPair : Def P7 w K mg base CX0 "is_pair" 2 ["value"] (spB K Rg.prD) := ok_pair R_1 TR dWhole
  have dItem : Def P7 w K mg base CX0 "is_item" 3 ["value"] (spB K Rg.itemD) := ok_item R_2 TR dWhole dPair
  have dRow : Def P7 w K mg base CX0 "is_row" 4 ["value"] (spB K Rg.rowD) := ok_row R_3 TR SA dItem
  have dKeys : Def P7 w K mg base CX0 "keys_differ" 1 ["items"] (spKeys K) := ok_keys R_4 TR
  have dItems : Def P7 w K mg base CX0 "items_of" 1 ["rows"] (spItems K) := ok_items R_5 TR
  have dRing : Def P7 w K mg base CX0 "is_ring" 5 ["value"] (spS K Rg.ringD) := ok_ring R_6 TR dRow dKeys dItems
  have dWayR : Def P7 w K mg base CX0 "is_way" 1 ["value"] (spB K wayD) := ok_way R_7 TR WA
  have dCkR : Def P7 w K mg base (L2.CX P7 w) "check_ring" 6 ["ring"] (spCk K (He.ga K "BadRing") "ring" Rg.ringD) := ok_ckR R_8 XE dRing
  have dCkW : Def P7 w K mg base (L2.CX P7 w) "check_way" 2 ["way"] (spCk K (He.ga K "BadWay") "way" wayD) := ok_ckW R_9 XE dWayR
  have dHome : Def P7 w K mg base CX0 "home" 1 ["item", "many"] (spHome K) := ok_home R_10
  have dHome2 : Def P7 w K mg base CX0 "home" 1 ["item", "many"] (spHome2 K) := ok_home2 R_10
  have dDist : Def P7 w K mg base CX0 "distance" 1 ["one", "other", "many"] spDist := ok_dist R_11
  have dGap : Def P7 w K mg base CX0 "gap" 2 ["rows", "row"] (spGap K) := ok_gap R_12 TR dHome dDist
  have dRuns : Def P7 w K mg base (L2.CX P7 w) "runs" 7 ["ring"] (spRuns K (He.ga K "BadRing")) := ok_runs R_13 TR dCkR
  have dAll : Def P7 w K mg base (L2.CX P7 w) "all_items" 7 ["ring"] (spAll K (He.ga K "BadRing")) := ok_all R_14 TR dCkR dItems
  have dReach : Def P7 w K mg base (L2.CX P7 w) "is_reached" 8 ["ring"] (spReach K) := ok_reach R_15 TR dRuns dGap
  have dOrder : Def P7 w K mg base CX0 "is_in_order" 3 ["ring"] (spOrder K) := ok_order R_16 TR dGap
  have dLawful : Def P7 w K mg base (L2.CX P7 w) "is_lawful" 9 ["ring", "way"] (spLawful K (He.ga K "BadWay") (He.ga K "BadRing")) := ok_lawful R_17 TR SA dCkR dCkW dReach dOrder
  have dCount : Def P7 w K mg base CX0 "is_count" 1 ["word"] spCount := ok_count R_29 TG TF
  have dFits : Def P7 w K mg base CX0 "fits" 2 ["mark", "word"] spFits := ok_fits R_30 TF dCount
  have dFilled : Def P7 w K mg base CX0 "filled" 3 ["form", "words"] (spFilled K) := ok_filled R_31 TG TF dFits
  have dFirst : Def P7 w K mg base CX0 "first_filled" 4 ["forms", "words"] (spFirst K) := ok_first R_32 dFilled
  have dPart : Def P7 w K mg base CX0 "read_part" 5 ["words"] (spPart K) := ok_part R_33 TF dFirst
  have dTest : Def P7 w K mg base CX0 "read_test" 6 ["words"] (spTest K) := ok_test R_34 TG dPart
  have LC : LineC P7 w K mg base (He.ga K "Line") := ⟨TLine, _, _, KLine, ok_lineI M0 TLine, mb0⟩
  have dLine : Def P7 w K mg base CX0 "read_line" 7 ["text", "in_loop"] (spLine K (He.ga K "Line")) := ok_line R_35 TF LC dTest dFirst
  have dAround : Def P7 w K mg base CX0 "loop_around" 1 ["lines", "opened"] (spAround K (He.ga K "Line")) := ok_around R_37 TLine
  have dTurn : Def P7 w K mg base CX0 "read_turn" 3 ["word", "number", "lines", "opened"] (spTurn K (He.ga K "Line")) := ok_turn R_36 TG LC
  have dLines : Def P7 w K mg base (L2.CX P7 w) "read_lines" 8 ["texts"] (spLines K (He.ga K "Line") (He.ga K "BadLine")) := ok_lines (fL := (He.ma K (He.ga K "BadLine") "__init__")) R_38 TG ⟨E2⟩ TLine dAround dTurn dLine
  have dLand : Def P7 w K mg base CX0 "landing" 1 ["lines", "number"] (spLand K (He.ga K "Line")) := ok_land R_39 TG TLine
  have dLink : Def P7 w K mg base CX0 "link" 2 ["lines", "number"] (spLink K (He.ga K "Line")) := ok_link R_40 TG TLine dLand
  have dProg : Def P7 w K mg base (L2.CX P7 w) "read_program" 9 ["texts"] (spProg K (He.ga K "Line") (He.ga K "BadLine")) := ok_prog R_41 TG dLines dLink
  have dKind : Def P7 w K mg base CX0 "is_kind" 1 ["value"] (spStrIn K kindM) := ok_kind R_42 TG TC
  have dWay : Def P7 w K mg base CX0 "is_way" 1 ["value"] (spStrIn K wayM) := ok_wayC R_7 TG TC
  have dLof : Def P7 w K mg base CX0 "lines_of" 1 ["text"] spLinesOf := ok_linesOf R_43
  have dBarW : Def P7 w K mg base CX0 "barred_words" 1 ["kind", "way"] spBarW := ok_barW R_44
  have dBarL : Def P7 w K mg base CX0 "barred_lines" 2 ["kind", "way", "texts"] (spBarL K) := ok_barL R_45 TG dBarW
  have dIfs : Def P7 w K mg base CX0 "outer_ifs" 1 ["program"] (spIfs K (He.ga K "Line")) := ok_ifs R_50 TG TLine
  have dWays : Def P7 w K mg base CX0 "all_ways" 1 ["program"] (spWays K (He.ga K "Line")) := ok_ways R_46 TG TLine
  have dBehind : Def P7 w K mg base CX0 "behind_go" 1 ["program", "head"] (spBehind K (He.ga K "Line")) := ok_behind R_47 TG TLine
  have GM := ok_may (P := P7) (w := w) (base := base) (C := (He.ga K "Line")) M3 TC TWalk TLine
  have WC : WalkC P7 w K mg base (He.ga K "Line") (He.ga K "Walk") := ⟨TWalk, ⟨_, _, KWalk, ok_walkI M1 TWalk TLine, mb1⟩,
    ⟨_, _, (He.meth_ok (sees_chk c 111 (f := ck111) rfl)), ok_behindL M2 TG TWalk, mb2⟩,
    ⟨_, _, (He.meth_ok (sees_chk c 113 (f := ck113) rfl)), ok_mloop M4 TC TWalk dBehind, mb4⟩,
    ⟨_, _, (He.meth_ok (sees_chk c 114 (f := ck114) rfl)), ok_early M5 TWalk GM mb3 (He.meth_ok (sees_chk c 112 (f := ck112) rfl)), mb5⟩,
    ⟨_, _, (He.meth_ok (sees_chk c 115 (f := ck115) rfl)), ok_late M6 TWalk TLine, mb6⟩⟩
  have dRO : Def P7 w K mg base CX0 "refused_on" 3 ["kind", "program", "way"] (spRO K (He.ga K "Line")) := ok_refOn R_48 TF TLine WC
  have dRL : Def P7 w K mg base CX0 "refused_lines" 4 ["kind", "way", "texts", "program"] (spRL K (He.ga K "Line")) := ok_refL R_49 dBarL dWays dRO
  have GC := ok_codeI M7 TG TC TCode XA dKind dWay dLof dProg dIfs dRL
  have dCanP : Def P7 w K mg base (L2.CX P7 w) "can_be_played" 10 ["code", "ring"] (spCanP K (He.ga K "Line") (He.ga K "Code")) := ok_canp R_26 TCode dRing dLawful
  have dCanH : Def P7 w K mg base (L2.CX P7 w) "can_be_handed" 8 ["kind", "ring", "handed"] (spCanH K) := ok_canh R_27 TR dWhole dItem dPair dAll
  have GS := ok_stateI (P := P7) (w := w) (base := base) (C := (He.ga K "Line")) M8 TR TState TCode dHome2
  have dSetR : Def P7 w K mg base CX0 "set_register" 1 ["state", "words"] (spSetR K (He.ga K "State")) := ok_setR R_18 TState DA
  have dDoL : Def P7 w K mg base CX0 "do_line" 2 ["state", "form", "words"] (spDoL K (He.ga K "State")) := ok_doL R_19 DA dSetR
  have dPlayL : Def P7 w K mg base CX0 "play_lines" 3 ["state"] (spPlayL K (He.ga K "Line") (He.ga K "Code") (He.ga K "State")) := ok_playL R_20 TR TState TCode TLine DA dDoL
  have dOwed : Def P7 w K mg base (L2.CX P7 w) "owed_items" 8 ["kind", "ring", "handed"] (spOwed K) := ok_owed R_21 dAll
  have dLeaves : Def P7 w K mg base (L2.CX P7 w) "leaves_owed" 9 ["kind", "ring", "handed", "left"] (spLeaves K) := ok_leaves R_22 hs dAll dOwed
  have dRowOf : Def P7 w K mg base CX0 "owed_row" 1 ["ring", "key"] (spRowOf K) := ok_rowOf R_23 TR
  have dSteady : Def P7 w K mg base (L2.CX P7 w) "is_steady" 9 ["kind", "ring", "handed", "left"] (spSteady K) := ok_steady R_24 TR hz dOwed
  have dBrk : Def P7 w K mg base (L2.CX P7 w) "broken_promises" 10 ["state", "ended", "handed"] (spBrk K (He.ga K "Line") (He.ga K "Code") (He.ga K "State")) := ok_brk R_25 TR TState TCode DA dRing dLawful dLeaves dRowOf dSteady
  have GP := ok_playI (P := P7) (w := w) (base := base) M9 TR hs TState TPlay
  have dPlay : Def P7 w K mg base (L2.CX P7 w) "play" 11 ["code", "ring", "handed"] (spPlay K (He.ga K "Line") (He.ga K "Code") (He.ga K "BadRing") (He.ga K "BadHanded") (He.ga K "Play")) := ok_play R_28 TCode E4 E5 dCanP dCanH TState KState GS mb8 TPlay KPlay GP mb9 dPlayL dBrk
  have GBg := ok_bag (P := P7) (w := w) (base := base) (mg := mg) F51 BT
  have GD := ok_draw (P := P7) (w := w) (base := base) (mg := mg) F52 BT
  have GTd := ok_told F55 TR TPlay E4 E5 SP dPlay
  have GR := ok_lring F53 TR GD (He.glo_ok X G (sees_chk c 52 (f := ck52) rfl)) F52.kp b52
  have GTh := ok_thing F54 TR GD (He.glo_ok X G (sees_chk c 52 (f := ck52) rfl)) F52.kp b52
  have GW := ok_bad F57 TR GD (He.glo_ok X G (sees_chk c 52 (f := ck52) rfl)) F52.kp b52
  have GO := ok_odd F56 TR GD (He.glo_ok X G (sees_chk c 52 (f := ck52) rfl)) F52.kp b52
  exact ok_law F58 TR TCode KCode GC mb7 TPlay GBg (He.glo_ok X G (sees_chk c 51 (f := ck51) rfl)) F51.kp b51 GD (He.glo_ok X G (sees_chk c 52 (f := ck52) rfl)) F52.kp b52 GR (He.glo_ok X G (sees_chk c 53 (f := ck53) rfl)) F53.kp b53 GTh (He.glo_ok X G (sees_chk c 54 (f := ck54) rfl)) F54.kp b54 GW (He.glo_ok X G (sees_chk c 57 (f := ck57) rfl)) F57.kp b57 GO (He.glo_ok X G (sees_chk c 56 (f := ck56) rfl)) F56.kp b56 GTd (He.glo_ok X G (sees_chk c 55 (f := ck55) rfl)) F55.kp b55 dPlay
end K40

open PySem PySem.W PySem.Calls PyProof.Rows
set_option maxRecDepth 100000 in
set_option maxHeartbeats 0 in
theorem PySem.Challenge.cw_openrings_k07_cases_refused_holds : PySem.Challenge.rw_openrings_k07_cases_refused.Holds := by
  w_on; o_law
  refine HandSHeadRun.head_any (r := OpenLaw.row PySem.Challenge.rw_openrings_k07_cases_refused) (q := view (OpenLaw.row PySem.Challenge.rw_openrings_k07_cases_refused).prog [109]) (H := K40.hk7) (ob := K40.ob7) (M := 7000) (loose := K40.loose) (d := HandSHeadRun.topDef (OpenLaw.row PySem.Challenge.rw_openrings_k07_cases_refused).prog 109) (kwd := []) K40.ob7_eq
    (by kernel_rfl) (fun s => by kernel_rfl) K40.run7 (by kernel_rfl) (by kernel_rfl) (by kernel_rfl) (by rfl) (by first | assumption | decide +kernel) (by decide +kernel) ⟨rfl, rfl, rfl, rfl, rfl, by decide +kernel⟩ ?hw ?hc
  case hw => w_witness2
  case hc =>
    refine L2.walk_ofE (l := PySem.Challenge.rw_openrings_k07_cases_refused) (n := 63) (k := 13) (x := "script") (CX := L2.CX0) rfl (by decide) (by kernel_rfl) ⟨rfl, by decide, by decide⟩ ?F (fun _ _ _ _ z => z)
    intro w mg fa h Y G hmg0
    obtain ⟨K, KX, c⟩ := Y
    have hmg : mg ("law" : PySem.Str) = some (.ref fa) := by
      have e : (HandSHeadRun.topDef (OpenLaw.row PySem.Challenge.rw_openrings_k07_cases_refused).prog 109).name = ("law" : PySem.Str) := by kernel_rfl
      rw [← e]
      exact hmg0
    obtain ⟨fd, hb, hF⟩ := K40.facts KX G hmg c
    exact ⟨K, fd, K40.spLaw K, KX, hb, fun H a ns hl _ hS => ⟨a, ns, rfl, hS, hl, fun _ => rfl⟩, hF⟩

