import PyProof.Rows.All
import Wide.All
import OpenK.AllK
import Wide.FinOn
import HandS.ForMost
import HandS.ForExc
import HandS.Evl
import HandS.Wide
import HandS.Gcd
import HandS.IsInst
import HandS.ExcInit
import HandS.ExcField
import HandS.CallSlots
import HandS.Defaults
import HandS.MakeKw
import HandS.OwnEq
import HandS.ExcBuiltin
import HandS.RaiseOp
import HandS.TryOnly
import PyProof.Rows.Range3
import HandS.ExcValue
import KE.KExcIs
import HandS.MakeKwOnly
import HandS.StrMore
import HandS.FStr
import HandS.Style
import HandS.ClsMeth
import HandS.Small
import KE.IntTextText
import KE.OsScanText
import KE.KCallOwn
import HandS.Walk
import HandS.Words
import HandS.Head0
import HandS.Head1
import HandS.Head2
import HandS.HeadEnd
import HandS.HeadHook1
import HandS.HeadHook2
import HandS.Head3
import KE.KIsAll
import HandS.SetKeys
import HandS.DictTup
import HandS.SortInts
import HandS.Star
import HandS.Conv
import PyProof.DictMoreH
import HandS.TupLen
import KE.KEqSeq
import KE.KDictWalk
import HandS.Deep
import HandS.DictSub
import HandS.NamedTupGet
import PySem.Challenge.RW_anytune_k10_one_form_of_tunes
set_option Elab.async false
set_option linter.all false
set_option maxRecDepth 100000
set_option maxHeartbeats 2000000
namespace Mo
open PySem L2
abbrev Fx : Type := PySem.W.Frag → Bool
abbrev AlX : Type := He.AlD × Bool
def obsX (fa : List He.Fa) (fn : List He.DefD) (fx : List Fx) (K : PySem.W.Frag) : AlX := (He.obsD fa fn K, fx.all fun f => f K)
def SaysX (fa : List He.Fa) (fn : List He.DefD) (fx : List Fx) (K : PySem.W.Frag) : Prop := He.SaysD fa fn K ∧ ∀ f ∈ fx, f K = true
/-- a def of the top, a method, by its statement -/
abbrev dG (x : Str) (st : Stmt) : He.DefD := ⟨(x, none), x, x, defArgs st, defBody st, defScope st, [], []⟩
abbrev dM (c m q : Str) (st : Stmt) : He.DefD := ⟨(c, some m), m, q, defArgs st, defBody st, defScope st, [], []⟩
def ownB (x : Str) : Fx := fun K => (He.Fa.cls x).ok K && (He.eqO (PySem.W.findIn K (.ref (He.ga K x)) "__class__") (some (some (.builtin "object.__class__"))) && (decide (PySem.W.mroIn K (He.ga K x) (.type "object") = some true) && (PySem.W.isClsIn K (He.ga K x) && (decide (PySem.W.typeIn K (.ref (He.ga K x)) = some (.type "type")) &&
  (PySem.W.selfFirst K (He.ga K x) && (decide (PySem.W.subIn K (.ref (He.ga K x)) (.type "int") = some false) && (decide (PySem.W.subIn K (.ref (He.ga K x)) (.type "list") = some false) && (decide (PySem.W.subIn K (.ref (He.ga K x)) (.type "dict") = some false) && (decide (PySem.W.subIn K (.ref (He.ga K x)) (.type "object") = some true) &&
  He.eqO (PySem.W.findIn K (.ref (He.ga K x)) "__ne__") (some (some (.builtin "object.__ne__"))))))))))))
/-- what stands under a name of a class is that -/
def hasB (x m : Str) (v : Option Value) : Fx := fun K => He.eqO (PySem.W.findIn K (.ref (He.ga K x)) m) (some v)
/-- .. a function of its own -/
def ownM (x m : Str) : Fx := fun K => He.eqO (PySem.W.findIn K (.ref (He.ga K x)) m) (some (some (.ref (He.ma K (He.ga K x) m)))) && (PySem.W.isFn K (.ref (He.ma K (He.ga K x) m)) && PySem.W.keepIn K (.ref (He.ma K (He.ga K x) m)))
/-- an error class with its own __init__ -/
def excB (x : Str) : Fx := fun K => (match K.lookup (He.ga K x) with
  | some ⟨.type T, _, .cls cd, sl⟩ => (match cd.mro, sl.toList with
    | .ref C' :: bm, [_, _, _, _, some (.builtin n), _] => decide (T = "type") && (decide (C' = He.ga K x) && (decide (n = "ValueError.__new__") && (!cd.hasDel && (cd.hasDict && PySem.HandSPX.refsVE bm))))
    | _, _ => false)
  | _ => false) && (He.eqO (PySem.W.findIn K (.ref (He.ga K x)) "__setattr__") (some (some (.builtin "object.__setattr__"))) && (decide (PySem.W.subIn K (.ref (He.ga K x)) (.type "BaseException") = some true) && (decide (PySem.W.typeIn K (.ref (He.ga K x)) = some (.type "type")) && PySem.W.keepIn K (.ref (He.ga K x)))))
def fnWA (K : PySem.W.Frag) (a : Addr) : He.FnW := match K.lookup a with
  | some ⟨_, _, .func fd, _⟩ => some (fd.name, fd.qualname, fd.params, fd.body, fd.scope, fd.globals, fd.closure, fd.builtins)
  | _ => none
def stP (K : PySem.W.Frag) (C : Addr) (m : Str) : Addr := match PySem.W.findCls K (.ref C) (.type "type") m with
  | some (.get _ (.ref p) _ _) => p
  | _ => 0
def stG (K : PySem.W.Frag) (C : Addr) (m : Str) : Addr := match PySem.W.recIn K (stP K C m) "staticmethod" with
  | some (.ref g :: _) => g
  | _ => 0
def isNon : Value → Bool
  | .none => true
  | _ => false
/-- a static method: its class, its name, its def -/
structure StD where
  cls : Str
  m : Str
  qual : Str
  st : Stmt
def StD.val (d : StD) : He.FnW := some (d.m, d.qual, defArgs d.st, .stmts (defBody d.st), defScope d.st, mainGlobals, [], builtinsNs)
def StD.ok (K : PySem.W.Frag) (d : StD) : Bool := (match PySem.W.findCls K (.ref (He.ga K d.cls)) (.type "type") d.m with
  | some (.get (.builtin n) (.ref p) .none (.ref c)) => decide (n = "staticmethod.__get__") && (decide (c = He.ga K d.cls) && (match PySem.W.recIn K p "staticmethod" with
    | some (.ref _ :: _) => true
    | _ => false))
  | _ => false) && (PySem.W.keepIn K (.ref (stG K (He.ga K d.cls) d.m)) && (match K.lookup (stG K (He.ga K d.cls) d.m) with
  | some ⟨_, _, .func fd, _⟩ => PySem.W.codeIn K fd.code d.qual && isNon fd.defaults
  | _ => false))
abbrev AlS : Type := AlX × (Bool × List He.FnW)
def obsS (fa : List He.Fa) (fn : List He.DefD) (fx : List Fx) (ss : List StD) (K : PySem.W.Frag) : AlS := (obsX fa fn fx K, (ss.all fun d => d.ok K, ss.map fun d => fnWA K (stG K (He.ga K d.cls) d.m)))
structure SaysS (fa : List He.Fa) (fn : List He.DefD) (fx : List Fx) (ss : List StD) (K : PySem.W.Frag) : Prop where
  x : SaysX fa fn fx K
  s : (ss.all fun d => d.ok K) = true
  v : (ss.map fun d => fnWA K (stG K (He.ga K d.cls) d.m)) = ss.map StD.val
def hookS (as : List Addr) (fa : List He.Fa) (fn : List He.DefD) (fx : List Fx) (ss : List StD) : PySem.W.Hook where
  α := AlS
  obs := fun s => obsS fa fn fx ss (He.frG s.heap.get? as)
  val := fun _ => ((He.valD fn, true), (true, ss.map StD.val))
  says := fun _ h => ∃ K : PySem.W.Frag, K.In h ∧ SaysS fa fn fx ss K
  of := fun _ s e => ⟨_, He.frG_in, ⟨congrArg (fun z : AlS => z.1.1) e, List.all_eq_true.mp (congrArg (fun z : AlS => z.1.2) e)⟩, congrArg (fun z : AlS => z.2.1) e, congrArg (fun z : AlS => z.2.2) e⟩
  keeps := fun _ _ _ ⟨K, hK, c⟩ k => ⟨K, PySem.W.Frag.In.keeps hK k, c⟩
theorem obsS_eq {as : List Addr} {fa : List He.Fa} {fn : List He.DefD} {fx : List Fx} {ss : List StD} {g : Addr → Option Obj} {s : Shared} (h : ∀ a, g a = s.heap.get? a) : obsS fa fn fx ss (He.frG g as) = (hookS as fa fn fx ss).obs s := by
  rw [show g = s.heap.get? from funext h] <;> rfl
/-- what a class is, to isinstance -/
def kitB (x y : Value) (b : Bool) (K : PySem.W.Frag) : Bool := decide (PySem.W.kitOne K x y = some b)
/-- the special facts of a moment's text -/
def momB : Fx := fun K => He.eqO (PySem.W.nsIn K mainGlobals "gcd") (some (some (.builtin "math.gcd"))) && (He.eqO (PySem.W.specialIn K (.builtin "object.__class__") "__get__") (some (some (.builtin "getset_descriptor.__get__"))) && (decide (PySem.W.takesIn K (.builtin "object.__class__") = some true) &&
  (kitB (.ref (He.ga K "Moment")) (.ref (He.ga K "Moment")) true K && (kitB (.ref (He.ga K "Moment")) (.type "int") false K && (kitB (.type "int") (.ref (He.ga K "Moment")) false K && (kitB (.ref (He.ga K "Moment")) (.type "list") false K && kitB (.ref (He.ga K "Moment")) (.type "dict") false K))))))
/-- isinstance(x, C) for own C -/
def isB (x : Str) : Fx := fun K => kitB (.ref (He.ga K x)) (.ref (He.ga K x)) true K
/-- a method is a function -/
def tyB (x m : Str) : Fx := fun K => decide (PySem.W.typeIn K (.ref (He.ma K (He.ga K x) m)) = some (.type "function"))
def fnB (x m : Str) : Fx := fun K => PySem.W.fnIn K (He.ma K (He.ga K x) m)
/-- the fields of an error that is caught -/
def xfX (x : Str) : Fx := fun K => xfB K (He.ga K x)
/-- attributes of a class are read plainly -/
def readB (x : Str) : Fx := fun K => PySem.W.readsIn K (He.ga K x) (.type "type") && decide (PySem.W.specialIn K (.ref (He.ga K x)) "__getattribute__" = some (some (.builtin "type.__getattribute__")))
end Mo

namespace Mo
open PySem PySem.Spec PyProof.Rows L2
def top (i : Nat) : Stmt := PySem.Challenge.pw_anytune_k10_one_form_of_tunes.main.body.getD i (.Pass ⟨0, 0, 0, 0⟩)
/-! ### the head: what stands behind the top, by one run over these addresses -/
def nm0 : List PySem.Str := ["_wall", "__name__", "_kept", "AnytuneError", "NoMoment", "NoText", "NoMark", "NoRounds", "BadPace", "MOST_DIGITS", "BLOCK_DIGITS", "BLOCK", "Moment", "is_time", "as_moment", "_is_number"]
def nm1 : List PySem.Str := ["_decimal", "BOXES_IN_A_ROUND", "earlier", "later", "common_span", "ascending", "_merged", "in_order", "grouped", "first_from", "least_turn", "EITHER", "BOTH", "FIRST_ALONE", "JUST_ONE", "spread"]
def nm2 : List PySem.Str := ["needed", "arranged", "combined", "_together", "Loop", "hole_loop", "carried", "restricted", "unrolled", "window_cells", "merged", "_goes_on", "settled", "_keys", "_route_key", "overlaid"]
def nm3 : List PySem.Str := ["_from", "joined", "Mark", "image_of", "united", "rows_of", "marks_of", "moved", "mark_key", "longest", "rejoined", "reading", "tune_form", "_ring_keys", "played", "_without_silence"]
def nm4 : List PySem.Str := ["_common_span", "_led_back", "_source_of", "_endless_rows", "_cell_rows", "_images", "_meetings", "_home", "_hits", "_part_in_cell", "_shown", "raised", "shifted", "paced", "slowed", "_scaled"]
def nm5 : List PySem.Str := ["mirrored", "_mirrored_cell", "_by_rounds", "_from_rounds", "Tune", "filled_tune", "_joined_tunes", "_led_tune", "_covers", "_law_cell", "_law_row", "_law_unit", "_law_shift", "_law_grain", "_law_one", "_law_fill"]
def nm6 : List PySem.Str := ["_law_fill_sizes", "_law_marks", "_law_tune", "_law_floor", "_law_copies", "_law_tune_set", "_law_same", "_law_gcd", "_law_cuts", "_law_alike", "_law_later", "_law_units", "_law_key", "_law_is_marks", "_law_before", "_law_in_order"]
def nm7 : List PySem.Str := ["_law_is_int", "_law_least", "_law_repeated", "_law_held"]
def nms : List PySem.Str := nm0 ++ nm1 ++ nm2 ++ nm3 ++ nm4 ++ nm5 ++ nm6 ++ nm7
def ad0 : List Addr := [84, 83, 64, 122, 121, 141, 140, 344, 343, 600, 599, 940, 939, 63, 977, 976, 1069, 1068, 54, 53, 81, 80, 177, 176]
def ad1 : List Addr := [170, 355, 354, 362, 361, 229, 228, 236, 235, 243, 242, 250, 249, 257, 256, 264, 263, 271, 278, 277, 285, 292, 291, 299]
def ad2 : List Addr := [306, 305, 313, 320, 319, 327, 341, 340, 215, 214, 984, 983, 390, 389, 411, 410, 404, 403, 635, 634, 642, 641, 618, 617]
def ad3 : List Addr := [654, 653, 423, 422, 418, 417, 649, 648, 435, 434, 673, 672, 666, 665, 119, 118, 583, 582, 576, 623, 622, 628, 627, 138]
def ad4 : List Addr := [137, 817, 816, 991, 990, 1005, 1004, 1012, 1011, 1017, 1016, 1024, 1023, 1031, 1030, 1045, 1044, 1050, 1049, 1057, 1056, 1095, 1094, 1102]
def ad5 : List Addr := [1101, 1062, 1061, 1114, 1113, 1119, 1118, 1107, 1106, 590, 589, 1088, 1087, 1076, 1075, 1083, 1082, 1133, 1132, 1140, 1139, 1147, 1146, 848]
def ad6 : List Addr := [847, 1126, 1125, 1154, 1153]
def ads : List Addr := mainGlobals :: cStatics :: (ad0 ++ ad1 ++ ad2 ++ ad3 ++ ad4 ++ ad5 ++ ad6)
def fn0 : List He.DefD := [dG "_law_cell" (top 102),
  dG "_law_gcd" (top 116),
  dG "_kept" (top 3),
  dM "NoMoment" "__init__" "NoMoment.__init__" (inClass (top 5) 0),
  ⟨("Moment", some "__init__"), "__init__", "Moment.__init__", defArgs (inClass (top 14) 0), defBody (inClass (top 14) 0), defScope (inClass (top 14) 0), [.int 1], []⟩,
  dG "is_time" (top 15),
  dG "as_moment" (top 16),
  dM "Moment" "__eq__" "Moment.__eq__" (inClass (top 14) 7),
  dM "Moment" "__lt__" "Moment.__lt__" (inClass (top 14) 8),
  dM "Moment" "__le__" "Moment.__le__" (inClass (top 14) 9),
  dM "Moment" "__gt__" "Moment.__gt__" (inClass (top 14) 10),
  dM "Moment" "__ge__" "Moment.__ge__" (inClass (top 14) 11)]
def fn1 : List He.DefD := [dM "Moment" "__add__" "Moment.__add__" (inClass (top 14) 12),
  dM "Moment" "__sub__" "Moment.__sub__" (inClass (top 14) 14),
  dM "Moment" "__mul__" "Moment.__mul__" (inClass (top 14) 16),
  dM "Moment" "__floordiv__" "Moment.__floordiv__" (inClass (top 14) 18),
  dM "Moment" "__mod__" "Moment.__mod__" (inClass (top 14) 20),
  dM "Moment" "over" "Moment.over" (inClass (top 14) 23),
  dM "Moment" "__neg__" "Moment.__neg__" (inClass (top 14) 5),
  dG "_law_row" (top 103),
  dG "later" (top 22),
  dG "_merged" (top 25),
  dG "ascending" (top 24),
  dG "moved" (top 64)]
def fn2 : List He.DefD := [dG "mark_key" (top 65),
  dG "united" (top 60),
  dG "rejoined" (top 67),
  dG "grouped" (top 27),
  dG "in_order" (top 26),
  dG "longest" (top 66),
  dG "least_turn" (top 29),
  dG "_ring_keys" (top 70),
  dG "tune_form" (top 69),
  dM "NoMark" "__init__" "NoMark.__init__" (inClass (top 7) 0),
  ⟨("Mark", some "__init__"), "__init__", "Mark.__init__", defArgs (inClass (top 56) 0), defBody (inClass (top 56) 0), defScope (inClass (top 56) 0), [], [("start", .non), ("stop", .non)]⟩,
  dG "rows_of" (top 62)]
def fn3 : List He.DefD := [dG "marks_of" (top 63),
  dM "NoRounds" "__init__" "NoRounds.__init__" (inClass (top 8) 0),
  dM "Tune" "__init__" "Tune.__init__" (inClass (top 96) 0),
  dG "_law_unit" (top 104),
  dG "_law_grain" (top 106),
  dG "_law_one" (top 107),
  dG "_law_fill" (top 108),
  dG "_law_fill_sizes" (top 109),
  dG "_law_marks" (top 110),
  dG "_law_floor" (top 112),
  dG "_law_copies" (top 113),
  dG "_law_tune_set" (top 114)]
def fn4 : List He.DefD := [dG "_law_units" (top 120),
  dG "_law_key" (top 121),
  dG "_law_same" (top 115),
  dG "_law_before" (top 123),
  dG "_law_in_order" (top 124),
  dG "_law_is_marks" (top 122),
  dM "Mark" "__eq__" "Mark.__eq__" (inClass (top 56) 1),
  dG "_law_later" (top 119),
  dG "_law_cuts" (top 117),
  dG "_law_alike" (top 118),
  dG "_law_least" (top 126),
  dG "_law_repeated" (top 127)]
def fn5 : List He.DefD := [dG "_law_held" (top 128),
  dM "Tune" "__len__" "Tune.__len__" (inClass (top 96) 4),
  dG "_law_is_int" (top 125),
  dG "law" (top 129)]
def fns : List He.DefD := fn0 ++ fn1 ++ fn2 ++ fn3 ++ fn4 ++ fn5
def fa0 : List He.Fa := [.glo "law", .glo "_law_cell", .glo "_law_gcd", .glo "_kept", .meth "NoMoment" "__init__", .meth "Moment" "__init__", .glo "is_time", .glo "as_moment", .meth "Moment" "__eq__", .meth "Moment" "__lt__", .meth "Moment" "__le__", .meth "Moment" "__gt__", .meth "Moment" "__ge__", .meth "Moment" "__add__", .meth "Moment" "__radd__", .meth "Moment" "__sub__", .meth "Moment" "__rsub__", .meth "Moment" "__mul__", .meth "Moment" "__rmul__", .meth "Moment" "__floordiv__"]
def fa1 : List He.Fa := [.meth "Moment" "__rfloordiv__", .meth "Moment" "__mod__", .meth "Moment" "__rmod__", .meth "Moment" "over", .meth "Moment" "__neg__", .glo "_law_row", .glo "later", .glo "_merged", .glo "ascending", .glo "moved", .glo "mark_key", .glo "united", .glo "rejoined", .glo "grouped", .glo "in_order", .glo "longest", .glo "least_turn", .glo "_ring_keys", .glo "tune_form", .meth "NoMark" "__init__"]
def fa2 : List He.Fa := [.meth "Mark" "__init__", .glo "rows_of", .glo "marks_of", .meth "NoRounds" "__init__", .meth "Tune" "__init__", .glo "_law_unit", .glo "_law_grain", .glo "_law_one", .glo "_law_fill", .glo "_law_fill_sizes", .glo "_law_marks", .glo "_law_floor", .glo "_law_copies", .glo "_law_tune_set", .glo "_law_units", .glo "_law_key", .glo "_law_same", .glo "_law_before", .glo "_law_in_order", .glo "_law_is_marks"]
def fa3 : List He.Fa := [.meth "Mark" "__eq__", .glo "_law_later", .glo "_law_cuts", .glo "_law_alike", .glo "_law_least", .glo "_law_repeated", .glo "_law_held", .meth "Tune" "__len__", .glo "_law_is_int", .int "BOXES_IN_A_ROUND" 1024, .mkr "Moment", .mkr "Mark", .mkr "Tune", .free "len", .free "abs", .free "int", .free "bool", .free "isinstance", .free "range", .free "list"]
def fa4 : List He.Fa := [.free "dict", .free "sorted", .free "any", .free "enumerate", .free "max", .free "ZeroDivisionError", .glo "Moment", .glo "NoMoment", .glo "NoMark", .glo "Mark", .glo "NoRounds", .glo "Tune", .noat "Moment" "top", .noat "Moment" "bottom", .noat "NoMoment" "top", .noat "NoMoment" "bottom", .noat "NoMark" "tone", .noat "NoMark" "begin", .noat "NoMark" "end", .noat "Mark" "tone"]
def fa5 : List He.Fa := [.noat "Mark" "begin", .noat "Mark" "end", .noat "Mark" "start", .noat "Mark" "stop", .noat "NoRounds" "rounds", .noat "Tune" "rounds", .noat "Tune" "marks"]
def fas : List He.Fa := fa0 ++ fa1 ++ fa2 ++ fa3 ++ fa4 ++ fa5
def fxs : List Fx := [ownB "Moment", ownB "Mark", ownB "Tune", momB, excB "NoMoment", tyB "NoMoment" "__init__", excB "NoMark", tyB "NoMark" "__init__", excB "NoRounds", tyB "NoRounds" "__init__", isB "Mark"]
def sts : List StD := []
abbrev hdR : PySem.W.OpenRow := PySem.W.OpenLaw.row PySem.Challenge.rw_anytune_k10_one_form_of_tunes
abbrev hdK : PySem.W.Hook := hookS ads fas fns fxs sts
def hdO (s : PySem.W.SharedT) : AlS := obsS fas fns fxs sts (He.frG (HandSHeadRun.getT s) ads)
theorem hdO_eq (s : PySem.W.SharedT) : hdO s = hdK.obs s.abs := obsS_eq (HandSHeadRun.getT_eq s)
set_option maxHeartbeats 0 in
theorem hdRun (w : World) : HandSHeadRun.RunEqI hdR (PySem.W.view hdR.prog [0, 129]) hdK hdO 20000 nms w := by
  unfold HandSHeadRun.RunEqI
  kernel_rfl
end Mo

namespace Mo
open PySem PySem.W PySem.Calls PyProof.Rows
section
variable {prog : Program} {w : World} {M : Model} {A : Around} {E : Value → Shared → Prop} {s : Shared} {K : Frag} {x C L f : Addr} {h₀ : Heap} {m : Str → Option Value} {ox : Obj} {od : Option Obj} {f₁ : Addr}

theorem intBin_no {nm : String} {g : Int → Int → Sem PySem.Fin} {refl : Bool} {i : Int} {t : Tok} {Q : PySem.Fin → Shared → Prop} (hx : s.heap.get? x = some ox) (hd : ox.data = .plain)
    (h : Q (.done (.ret .notImplemented)) s) : wpAny M A (Builtin.Int.intBinary nm g refl ⟨[.int i t, .ref x], []⟩) Q E s := by
  obtain ⟨hp, g', d, tk, os⟩ := s
  unfold Builtin.Int.intBinary
  wp_walk using wpAny_loadPart' hx
  rw [hd]
  wp_walk
  exact h

/-- an int's built-in that hands an own instance back -/
def Declines (B : Builtin) : Prop := ∀ (M : Model) (A : Around) (E : Value → Shared → Prop) (s : Shared) (i : Int) (t : Tok) (x : Addr) (ox : Obj) (Q : PySem.Fin → Shared → Prop), s.heap.get? x = some ox → ox.data = .plain → Q (.done (.ret .notImplemented)) s → wpAny M A (B ⟨[.int i t, .ref x], []⟩) Q E s
theorem dec_bin {nm : String} {g : Int → Int → Sem PySem.Fin} {refl : Bool} : Declines (Builtin.Int.intBinary nm g refl) := fun _ _ _ _ _ _ _ _ _ hx hd h => intBin_no hx hd h
theorem call_int_no {id : String} {B : Builtin} {name : Str} {i : Int} {t : Tok} {Q : Value → Shared → Prop} (slot : Slot "int" name id) (entry : entryFor table id = some B) (args : argsOk id ⟨[.int i t, .ref x], []⟩)
    (hB : Declines B) (hx : s.heap.get? x = some ox) (hd : ox.data = .plain) (h : Q .notImplemented s) :
    wpAny (model prog w) A (call (.builtin id) [.int i t, .ref x]) Q E s := by
  exact wpAny_call (codeAny_call_builtin slot.plain entry (slot.check _ _ _ _ _ _ _ _ (typeIs_int s i t) args (hB _ _ _ _ _ _ _ _ _ hx hd h)))

/-- k op a, a an own instance whose class has the reflected operator -/
theorem binR_K {op : Operator} {i : Int} {t : Tok} {id : String} {B : Builtin} {Q : Value → Shared → Prop} (F : Fr h₀ L s.heap m) (X₀ : K.In h₀) (I : InstAt s.heap x ox C od) (hpl : ox.data = .plain) (hc : selfFirst K C = true)
    (hs : findIn K (.ref C) (PySem.dunder op.info.2) = some (some (.ref f₁))) (hs1 : isFn K (.ref f₁) = true)
    (hr : findIn K (.ref C) (dunderR op.info.2) = some (some (.ref f))) (hf : isFn K (.ref f) = true) (hsub : subIn K (.ref C) (.type "int") = some false)
    (slot : Slot "int" (PySem.dunder op.info.2) id) (fills : fillsNumberSlot (.type "int") op.info.2 = pure true) (entry : entryFor table id = some B) (args : argsOk id ⟨[.int i t, .ref x], []⟩)
    (hB : Declines B)
    (h : wpAny (model prog w) A (call (.ref f) [.ref x, .int i t]) (W.CmpBack Q) E s) : wpAny (model prog w) A (binaryOp op (.int i t) (.ref x)) Q E s := by
  have X := X₀.keeps F.keep
  obtain ⟨cd, rest, hcd, hm⟩ := ksp_first hc
  rcases hi : op.info with ⟨sym, nm'⟩
  rw [hi] at hs hr slot fills
  dsimp only at hs hr slot fills
  have two := ksp_try X I hr hf h
  have one : wpAny (model prog w) A (tryMethod (.int i t) (PySem.dunder nm') (.ref x)) (fun r s' => r = none ∧ s' = s) E s :=
    wpAny_tryMethod_declines (typeIs_int s i t) slot (call_int_no slot entry args hB I.1 hpl ⟨rfl, rfl, rfl⟩)
  obtain ⟨hh, g', d, tk, os⟩ := s
  have L1 : Looks (model prog w) hh (typeOf (.int i t)) (.type "int") := Looks.of_pure rfl
  have L2 : Looks (model prog w) hh (typeOf (.ref x)) (.ref C) := I.type
  have L3 : Looks (model prog w) hh (fillsNumberSlot (.type "int") nm') true := Looks.of_pure fills
  have L4 : Looks (model prog w) hh (fillsNumberSlot (.ref C) nm') true := fills_K X hcd hm hs
  have L5 : Looks (model prog w) hh (isSubtype (.ref C) (.type "int")) false := looks_subIn X hsub
  have L6 : Looks (model prog w) hh (numberSlotInPython (.type "int") nm') false := Looks.of_pure rfl
  have hne : (Value.type "int" == Value.ref C) = false := Bool.eq_false_iff.mpr fun q => by cases beq_iff_eq.mp q
  simp only [binaryOp, hi]
  refine wpAny_holding (wpAny_bind ?_)
  unfold binaryOp1
  refine wpAny_bind (L1.at (wpAny_bind (L2.at (wpAny_bind (L3.at ?_)))))
  simp only [hne, Bool.false_eq_true, if_false]
  ksp_lk
  refine wpAny_mono one (fun r s' hr' => ?_) fun _ _ e => e
  obtain ⟨rfl, rfl⟩ := hr'
  ksp_lk
  refine wpAny_mono two (fun r s' hr' => ?_) fun _ _ e => e
  obtain ⟨v, rfl, hq⟩ := hr'
  ksp_lk
  exact hq

/-- int.__lt__ and its like on an own instance -/
theorem tryCmp_int_no {id : String} {B : Builtin} {name : Str} {i : Int} {t : Tok} (slot : Slot "int" name id) (entry : entryFor table id = some B) (args : argsOk id ⟨[.int i t, .ref x], []⟩)
    (hB : Declines B) (hx : s.heap.get? x = some ox) (hd : ox.data = .plain) :
    wpAny (model prog w) A (tryCompare (.int i t) name (.ref x)) (fun r s' => r = none ∧ s' = s) E s := by
  unfold tryCompare
  refine wpAny_bind (wpAny_callSpecialIfBound?_slot (typeIs_int s i t) slot (call_int_no slot entry args hB hx hd ?_))
  exact wpAny_pure ⟨rfl, rfl⟩
theorem tryCmp_K {name : Str} {b : Value} {Q : Value → Shared → Prop} (X : K.In s.heap) (I : InstAt s.heap x ox C od) (hs : findIn K (.ref C) name = some (some (.ref f))) (hf : isFn K (.ref f) = true)
    (h : wpAny M A (call (.ref f) [.ref x, b]) (W.CmpBack Q) E s) : wpAny M A (tryCompare (.ref x) name b) (fun r s' => ∃ v, r = some v ∧ Q v s') E s := by
  unfold tryCompare
  refine wpAny_bind (ifBound_K X I hs hf (wpAny_mono h (fun v s' hv => ?_) fun _ _ e => e))
  cases v <;> first | exact hv.elim | exact wpAny_pure ⟨_, rfl, hv⟩
/-- x != b by x.__eq__(b): object.__ne__ -/
theorem tryNe_K {b : Value} {Q : Value → Shared → Prop} (hu : A.units + 1 < cLine) (X : K.In s.heap) (I : InstAt s.heap x ox C od) (hn : findIn K (.ref C) "__ne__" = some (some (.builtin "object.__ne__"))) (ho : subIn K (.ref C) (.type "object") = some true)
    (hs : findIn K (.ref C) "__eq__" = some (some (.ref f))) (hf : isFn K (.ref f) = true)
    (h : wpAny (model prog w) A.in1 (call (.ref f) [.ref x, b]) (fun v s' => ∃ k, v = .bool k ∧ Q (.bool (!k)) s') E s) :
    wpAny (model prog w) A (tryCompare (.ref x) "__ne__" b) (fun r s' => ∃ v, r = some v ∧ Q v s') E s := by
  have FB := F.cmp_object
  have fin : wpAny (model prog w) A (call (.builtin "object.__ne__") [.ref x, b]) (fun v s' => ∃ k, v = .bool k ∧ Q v s') E s := by
    obtain ⟨hp, g', d, tk, os⟩ := s
    have sub : Looks (model prog w) hp (isInstance (.ref x) (.type "object")) true := I.type.andThen (looks_subIn X ho)
    refine wpAny_call (codeAny_call_builtin FB.ne.plain F.cmpEntry_ne (@W.check_slot (model prog w) _ _ ⟨hp, g', d, tk, os⟩ "object.__ne__" "object" "__ne__" (.ref x) [b] [] _ F.cmpKind_ne F.cmpSplit_ne sub (F.cmpArgs_ne _ _) ?_))
    unfold Builtin.«object.__ne__»
    repeat (first
      | with_reducible refine wpAny_cRoomFor hu ?_
      | (refine wpAny_bind (m := callSpecialIfBound? (.ref x) (Str.ofString "__eq__") [b])
          (ifBound_K X I hs hf (wpAny_mono h (fun r s' hr => by
            obtain ⟨k, rfl, hq⟩ := hr
            repeat (first | exact ⟨_, rfl, hq⟩ | exact wpAny_pure ⟨_, rfl, hq⟩ | (refine wpAny_bind (m := truthy (.bool _)) (wpAny_truthy_bool ?_)) | wp_step)) fun _ _ e => e)))
      | wp_step)
  unfold tryCompare
  refine wpAny_bind ?_
  simp only [callSpecialIfBound?, bindSpecialIfBound?]
  refine wpAny_holding (wpAny_bind (wpAny_bind (wpAny_bind (I.type.here ((looks_findIn X hn).here ?_)))))
  simp only [FB.ne.bind]
  refine wpAny_bind (wpAny_askSetting (wpAny_ite ?_))
  have fin2 : wpAny (model prog w) A (call (.builtin "object.__ne__") ([.ref x] ++ [b]) >>= fun v => pure (some v)) (fun r s' => wpAny (model prog w) A (match r with | some .notImplemented | none => pure none | some v => pure (some v)) (fun r s' => ∃ v, r = some v ∧ Q v s') E s') E s :=
    wpAny_bind (wpAny_mono fin (fun v s' ⟨k, e, h'⟩ => by subst e; exact wpAny_pure (wpAny_pure ⟨_, rfl, h'⟩)) fun _ _ h' => h')
  split
  · exact wpAny_bind (wpAny_pure (wpAny_pure fin2))
  · exact wpAny_tryCatch (wpAny_bind (wpAny_pure (wpAny_pure fin2)))

/-- the rest of a comparison, x the own instance on the left -/
theorem cmpL_K {op : CmpOp} {b tb : Value} {Q : Value → Shared → Prop} (hu : A.units < cLine) (X : K.In s.heap) (I : InstAt s.heap x ox C od) (hb : Looks (model prog w) s.heap (typeOf b) tb) (hn : notFirst K C tb = true)
    (one : wpAny (model prog w) A (tryCompare (.ref x) (cmpInfo op).2.1 b) (fun r s' => ∃ v, r = some v ∧ Q v s') E s) : wpAny (model prog w) A (richCompare op (.ref x) b) Q E s := by
  unfold richCompare
  simp only [oneThing_ref]
  refine wpAny_holding (wpAny_bind (wpAny_cRoomFor hu ?_))
  refine wpAny_bind (I.type.here (wpAny_bind (hb.here ?_)))
  split
  · rename_i q
    have e : subIn K tb (.ref C) = some false := by
      rcases Bool.or_eq_true_iff.mp hn with e | e
      · rw [beq_iff_eq.mp e] at q; simp at q
      · exact beq_iff_eq.mp e
    refine wpAny_bind ((looks_subIn X e).here ?_)
    simp only [Bool.false_eq_true, if_false]
    refine wpAny_bind (wpAny_mono one (fun r s' z => ?_) fun _ _ e => e)
    obtain ⟨v, rfl, hq⟩ := z
    exact wpAny_pure hq
  · refine wpAny_bind (wpAny_pure ?_)
    simp only [Bool.false_eq_true, if_false]
    refine wpAny_bind (wpAny_mono one (fun r s' z => ?_) fun _ _ e => e)
    obtain ⟨v, rfl, hq⟩ := z
    exact wpAny_pure hq
/-- an int on the left -/
theorem cmpR_K {op : CmpOp} {i : Int} {t : Tok} {id : String} {B : Builtin} {Q : Value → Shared → Prop} (hu : A.units < cLine) (X : K.In s.heap) (I : InstAt s.heap x ox C od) (hpl : ox.data = .plain) (hsub : subIn K (.ref C) (.type "int") = some false)
    (slot : Slot "int" (cmpInfo op).2.1 id) (entry : entryFor table id = some B) (args : argsOk id ⟨[.int i t, .ref x], []⟩)
    (hB : Declines B)
    (two : wpAny (model prog w) A (tryCompare (.ref x) (cmpInfo op).2.2 (.int i t)) (fun r s' => ∃ v, r = some v ∧ Q v s') E s) : wpAny (model prog w) A (richCompare op (.int i t) (.ref x)) Q E s := by
  have one := tryCmp_int_no (prog := prog) (w := w) (A := A) (E := E) slot entry args hB I.1 hpl
  have o1 : oneThing? op (.int i t) (.ref x) = none := (typeIs_int s i t).oneThing_none op _
  unfold richCompare
  simp only [o1]
  refine wpAny_holding (wpAny_bind (wpAny_cRoomFor hu ?_))
  refine wpAny_bind (wpAny_typeOf (typeIs_int s i t) (wpAny_bind (I.type.here ?_)))
  have hne : (Value.type "int" != Value.ref C) = true := by
    rw [bne_iff_ne]
    intro q
    cases q
  rw [if_pos hne]
  refine wpAny_bind ((looks_subIn X hsub).here ?_)
  simp only [Bool.false_eq_true, if_false]
  refine wpAny_bind (wpAny_mono one (fun r s' z => ?_) fun _ _ e => e)
  obtain ⟨rfl, rfl⟩ := z
  dsimp only
  rw [if_pos (show (!false) = true from rfl)]
  refine wpAny_bind (wpAny_mono two (fun r s' z => ?_) fun _ _ e => e)
  obtain ⟨v, rfl, hq⟩ := z
  exact wpAny_pure hq
end
end Mo

namespace Mo
open PySem L2
/-- what the written part says of a class with operators of its own -/
structure Opc (K : PySem.W.Frag) (C : Addr) : Prop where
  sf : PySem.W.selfFirst K C = true
  nInt : PySem.W.subIn K (.ref C) (.type "int") = some false
  obj : PySem.W.subIn K (.ref C) (.type "object") = some true
theorem tyNot {K : PySem.W.Frag} {C : Addr} {T : String} (h : (PySem.fastBuiltinMro T).any (fun l => l.all fun v => match v with | .type _ => true | _ => false) = true) : PySem.W.subIn K (.type T) (.ref C) = some false := by
  show (PySem.fastBuiltinMro T).map (·.contains (.ref C)) = some false
  cases e : PySem.fastBuiltinMro T with
  | none => rw [e] at h; cases h
  | some l =>
    rw [e] at h
    show some (l.contains (.ref C)) = some false
    have h' : (l.all fun v => match v with | .type _ => true | _ => false) = true := h
    congr 1
    rw [List.contains_eq_any_beq]
    rw [List.any_eq_false]
    intro v hv q
    have z := List.all_eq_true.mp h' v hv
    have z2 := beq_iff_eq.mp q
    subst z2
    cases z
theorem notFirstT {K : PySem.W.Frag} {C : Addr} {T : String} (h : PySem.W.subIn K (.type T) (.ref C) = some false) : PySem.W.notFirst K C (.type T) = true := by
  unfold PySem.W.notFirst
  rw [h]
  simp
theorem notFirstC {K : PySem.W.Frag} {C : Addr} : PySem.W.notFirst K C (.ref C) = true := by
  unfold PySem.W.notFirst
  simp
theorem nf_int {K : PySem.W.Frag} {C : Addr} : PySem.W.subIn K (.type "int") (.ref C) = some false := tyNot (by decide +kernel)
theorem nf_str {K : PySem.W.Frag} {C : Addr} : PySem.W.subIn K (.type "str") (.ref C) = some false := tyNot (by decide +kernel)
theorem nf_none {K : PySem.W.Frag} {C : Addr} : PySem.W.subIn K (.type "NoneType") (.ref C) = some false := tyNot (by decide +kernel)
theorem nf_list {K : PySem.W.Frag} {C : Addr} : PySem.W.subIn K (.type "list") (.ref C) = some false := tyNot (by decide +kernel)
theorem nf_tuple {K : PySem.W.Frag} {C : Addr} : PySem.W.subIn K (.type "tuple") (.ref C) = some false := tyNot (by decide +kernel)

section
variable {X : Cx} {CX : CXT} {n k : Nat} {f f₁ C : Addr} {fd : FuncData} {ps : List Str} {sp : Sp} {E : XK}
theorem cmpBack_of {pins : List (Addr × Obj)} {σ : St} {Q : VK} {v : Value} {s' : Shared} (h : EP X pins σ Q v s') : PySem.W.CmpBack (EP X pins σ Q) v s' := by
  obtain ⟨x, H', I, r, q⟩ := id h
  cases v <;> first | exact h | skip
  cases x <;> first | (cases r; done) | (obtain ⟨_, r⟩ := r; cases r; done) | (exact absurd r (by intro z; cases z))
theorem run_op (F : FnOk X.prog X.w X.K X.mg X.base CX n f fd ps sp) (hr : Room n X.A) (hb : Binds X.K fd ps []) (hx : Passes CX X E) {pins : List (Addr × Obj)} {s : Shared} {σ : St} {H : Hp} {xs : List V} {us : List Value} {Q : VK}
    (I : Inv X pins σ H s) (r : Vals xs us) (h : sp xs H Q E) : wpAny (model X.prog X.w) X.A (call (.ref f) us) (PySem.W.CmpBack (EP X pins σ Q)) X.xe s :=
  wpAny_mono (run_fn (dvs := []) (ds := []) F hr hb .nil hx I r (by rw [List.append_nil]; exact h)) (fun v s' z => cmpBack_of z) fun _ _ e => e
theorem v2rr (a b : Addr) : Vals [V.ref a, V.ref b] [Value.ref a, Value.ref b] := .cons rfl (.cons rfl .nil)
theorem v2ri (a : Addr) (i : Int) (t : Tok) : Vals [V.ref a, V.int i] [Value.ref a, Value.int i t] := .cons rfl (.cons ⟨_, rfl⟩ .nil)
theorem v2ry (a : Addr) {y : V} {u : Value} (r : RelV y u) : Vals [V.ref a, y] [Value.ref a, u] := .cons rfl (.cons r .nil)
/-- a two-place method of the class -/
structure Op2 (K : PySem.W.Frag) (C : Addr) (nm : String) (f : Addr) : Prop where
  at_ : PySem.W.findIn K (.ref C) (PySem.dunder nm) = some (some (.ref f))
  fn : PySem.W.isFn K (.ref f) = true
  rr : ∃ g : Addr, PySem.W.findIn K (.ref C) (PySem.dunderR nm) = some none ∨ PySem.W.findIn K (.ref C) (PySem.dunderR nm) = some (some (.ref g))
structure OpR2 (K : PySem.W.Frag) (C : Addr) (nm : String) (f : Addr) : Prop where
  at_ : PySem.W.findIn K (.ref C) (PySem.dunderR nm) = some (some (.ref f))
  fn : PySem.W.isFn K (.ref f) = true
  ll : ∃ g : Addr, PySem.W.findIn K (.ref C) (PySem.dunder nm) = some (some (.ref g)) ∧ PySem.W.isFn K (.ref g) = true
def IsC (C : Addr) (x : V) (H : Hp) : Prop := ∃ a dx fs, x = .ref a ∧ H a = some (.ins C dx fs)
def rOwn (C : Addr) (sp : Sp) (E : XK) : R2 := fun x y H Q => IsC C x H ∧ (IsC C y H ∨ ∃ i, y = .int i) ∧ sp [x, y] H Q E
def rOwnR (C : Addr) (sp : Sp) (E : XK) : R2 := fun x y H Q => (∃ i, x = .int i) ∧ IsC C y H ∧ sp [y, x] H Q E
/-- int's own facts of an operator -/
structure IntOp (op : Operator) : Prop where
  fo : ∃ fo ro, (∀ K : PySem.W.Frag, PySem.W.findIn K (.type "int") (PySem.dunder op.info.2) = some fo) ∧ (∀ K : PySem.W.Frag, PySem.W.findIn K (.type "int") (PySem.dunderR op.info.2) = some ro)
theorem op_own {op : Operator} (T : Opc X.K C) (IO : IntOp op) (O : Op2 X.K C op.info.2 f) (F : FnOk X.prog X.w X.K X.mg X.base CX n f fd ps sp) (hr : Room n X.A) (hb : Binds X.K fd ps []) (hx : Passes CX X E) : OpR X (binaryOp op) (rOwn C sp E) := by
  intro pins s σ H x y v u Q I rx ry h
  obtain ⟨⟨a, dx, fs, rfl, ha⟩, hy, q⟩ := h
  cases rx
  obtain ⟨mA, J, _⟩ := ins_get I.hok ha
  obtain ⟨od, J, _⟩ := J.look
  obtain ⟨m, hF⟩ := I.fr
  rcases hy with ⟨b, dy, gs, rfl, hb'⟩ | ⟨i, rfl⟩
  · cases ry
    obtain ⟨mB, J', _⟩ := ins_get I.hok hb'
    obtain ⟨od', J', _⟩ := J'.look
    exact PySem.W.binop_K hF I.ok.mod.kin J J'.type T.sf O.at_ O.fn (run_op F hr hb hx I (v2rr _ _) q)
  · obtain ⟨t, rfl⟩ := ry
    obtain ⟨fo, ro, e1, e2⟩ := IO.fo
    obtain ⟨g, e3⟩ := O.rr
    obtain ⟨rc, e4, e5⟩ : ∃ rc, PySem.W.findIn X.K (.ref C) (PySem.dunderR op.info.2) = some rc ∧ (rc = none ∨ ∃ g : Addr, rc = some (.ref g)) := by
      rcases e3 with e3 | e3
      · exact ⟨_, e3, .inl rfl⟩
      · exact ⟨_, e3, .inr ⟨g, rfl⟩⟩
    exact PySem.W.ksp_binT (T := "int") hF I.ok.mod.kin J rfl T.sf O.at_ O.fn e4 e5 (e1 _) (e2 _) nf_int (run_op F hr hb hx I (v2ri _ _ _) q)
/-- int op own -/
structure IntOpR (op : Operator) : Prop where
  sl : ∃ id B, PySem.Slot "int" (PySem.dunder op.info.2) id ∧ entryFor table id = some B ∧ (∀ i t x, argsOk id ⟨[.int i t, .ref x], []⟩) ∧ Declines B
  fills : fillsNumberSlot (.type "int") op.info.2 = pure true
theorem op_ownR {op : Operator} (T : Opc X.K C) (IO : IntOpR op) (O : OpR2 X.K C op.info.2 f) (F : FnOk X.prog X.w X.K X.mg X.base CX n f fd ps sp) (hr : Room n X.A) (hb : Binds X.K fd ps []) (hx : Passes CX X E) : OpR X (binaryOp op) (rOwnR C sp E) := by
  intro pins s σ H x y v u Q I rx ry h
  obtain ⟨⟨i, rfl⟩, ⟨a, dx, fs, rfl, ha⟩, q⟩ := h
  cases ry
  obtain ⟨t, rfl⟩ := rx
  obtain ⟨mA, J, _⟩ := ins_get I.hok ha
  obtain ⟨od, J, _⟩ := J.look
  obtain ⟨m, hF⟩ := I.fr
  obtain ⟨g, g1, g2⟩ := O.ll
  obtain ⟨id, B, s1, s2, s3, s4⟩ := IO.sl
  exact binR_K hF I.ok.mod.kin J rfl T.sf g1 g2 O.at_ O.fn T.nInt s1 IO.fills s2 (s3 _ _ _) s4 (run_op F hr hb hx I (v2ri _ _ _) q)

/-! ### comparisons -/
/-- the types of what an own instance is compared with -/
inductive Par (C : Addr) (H : Hp) : V → Prop where
  | int (i : Int) : Par C H (.int i)
  | str (z : Str) : Par C H (.str z)
  | non : Par C H .non
  | lst {a : Addr} {xs : List V} (e : H a = some (.lst xs)) : Par C H (.ref a)
  | tup {a : Addr} {xs : List V} (e : H a = some (.tup xs)) : Par C H (.ref a)
  | ins {a dx : Addr} {fs : List (Str × V)} (e : H a = some (.ins C dx fs)) : Par C H (.ref a)
theorem Par.look {H : Hp} {y : V} {u : Value} {pins : List (Addr × Obj)} {s : Shared} {σ : St} (I : Inv X pins σ H s) (p : Par C H y) (ry : RelV y u) : ∃ tb, PySem.W.Looks (model X.prog X.w) s.heap (typeOf u) tb ∧ PySem.W.notFirst X.K C tb = true := by
  cases p with
  | int i => obtain ⟨t, rfl⟩ := ry; exact ⟨_, .of_pure rfl, notFirstT nf_int⟩
  | str z => obtain ⟨t, rfl⟩ := ry; exact ⟨_, .of_pure rfl, notFirstT nf_str⟩
  | non => cases ry; exact ⟨_, .of_pure rfl, notFirstT nf_none⟩
  | @lst a xs e =>
    cases ry
    obtain ⟨_, its, n, _, e⟩ := (show ObjOk X.prog X.w H s.heap a (.lst xs) from I.hok a _ e)
    exact ⟨_, fun A Q E s k q => wpAny_typeOf_ref (k _ _ e) q, notFirstT nf_list⟩
  | @tup a xs e =>
    cases ry
    obtain ⟨_, its, _, o, e, hc, _⟩ := (show ObjOk X.prog X.w H s.heap a (.tup xs) from I.hok a _ e)
    exact ⟨.type "tuple", fun A Q E s k q => wpAny_typeOf_ref (k _ _ e) (by rw [hc]; exact q), notFirstT nf_tuple⟩
  | ins e =>
    cases ry
    obtain ⟨mB, J', _⟩ := ins_get I.hok e
    obtain ⟨od', J', _⟩ := J'.look
    exact ⟨_, J'.type, notFirstC⟩
/-- a op b by the class's own method -/
def rCmp (C : Addr) (sp : Sp) (E : XK) : R2 := fun x y H Q => IsC C x H ∧ Par C H y ∧ sp [x, y] H Q E
theorem op_cmp {op : CmpOp} (hop : ∀ v u : Value, compareOp op v u = richCompare op v u) (hs : PySem.W.findIn X.K (.ref C) (cmpInfo op).2.1 = some (some (.ref f))) (hf : PySem.W.isFn X.K (.ref f) = true)
    (F : FnOk X.prog X.w X.K X.mg X.base CX n f fd ps sp) (hr : Room n X.A) (hb : Binds X.K fd ps []) (hx : Passes CX X E) : OpR X (compareOp op) (rCmp C sp E) := by
  intro pins s σ H x y v u Q I rx ry h
  obtain ⟨⟨a, dx, fs, rfl, ha⟩, p, q⟩ := h
  obtain ⟨tb, lb, nf⟩ := p.look I ry
  cases rx
  obtain ⟨mA, J, _⟩ := ins_get I.hok ha
  obtain ⟨od, J, _⟩ := J.look
  rw [hop]
  exact cmpL_K hr.units0 I.kIn J lb nf (tryCmp_K I.kIn J hs hf (run_op F hr hb hx I (v2ry _ ry) q))
/-- k op a, by a's reflected method -/
def rCmpR (C : Addr) (sp : Sp) (E : XK) : R2 := fun x y H Q => (∃ i, x = .int i) ∧ IsC C y H ∧ sp [y, x] H Q E
structure IntCmp (op : CmpOp) : Prop where
  eq : ∀ v u : Value, compareOp op v u = richCompare op v u
  sl : ∃ id B, PySem.Slot "int" (cmpInfo op).2.1 id ∧ entryFor table id = some B ∧ (∀ i t x, argsOk id ⟨[.int i t, .ref x], []⟩) ∧ Declines B
theorem op_cmpR {op : CmpOp} (T : Opc X.K C) (IC : IntCmp op) (hs : PySem.W.findIn X.K (.ref C) (cmpInfo op).2.2 = some (some (.ref f))) (hf : PySem.W.isFn X.K (.ref f) = true)
    (F : FnOk X.prog X.w X.K X.mg X.base CX n f fd ps sp) (hr : Room n X.A) (hb : Binds X.K fd ps []) (hx : Passes CX X E) : OpR X (compareOp op) (rCmpR C sp E) := by
  intro pins s σ H x y v u Q I rx ry h
  obtain ⟨⟨i, rfl⟩, ⟨a, dx, fs, rfl, ha⟩, q⟩ := h
  cases ry
  obtain ⟨t, rfl⟩ := rx
  obtain ⟨mA, J, _⟩ := ins_get I.hok ha
  obtain ⟨od, J, _⟩ := J.look
  obtain ⟨id, B, s1, s2, s3, s4⟩ := IC.sl
  rw [IC.eq]
  exact cmpR_K hr.units0 I.kIn J rfl T.nInt s1 s2 (s3 _ _ _) s4 (tryCmp_K I.kIn J hs hf (run_op F hr hb hx I (v2ri _ _ _) q))
/-- the own == run a level deeper -/
theorem run_in1 (F : FnOk X.prog X.w X.K X.mg X.base CX n f fd ps sp) (hr : Room (n + 1) X.A) (hb : Binds X.K fd ps []) (hx : Passes CX X E) {pins : List (Addr × Obj)} {s : Shared} {σ : St} {H : Hp} {xs : List V} {us : List Value} {Q : VK}
    (I : Inv X pins σ H s) (r : Vals xs us) (h : sp xs H Q E) : wpAny (model X.prog X.w) X.A.in1 (call (.ref f) us) (EP X pins σ Q) X.xe s := by
  have e0 : Env0 X.prog X.w X.K X.mg X.base X.A.in1 X.stack s H := I.env0.in1
  have hl : us.length = ps.length := by rw [← r.length]; exact F.len _ _ _ _ h
  refine wpAny_call (codeAny_mono (F.run X.A.in1 X.stack s H ⟨us, []⟩ us xs _ E hr.in1 e0 (by
    have := hb s us I.kIn (by simpa using hl)
    simpa using this) r h) fun r s' hq => ?_)
  cases r with
  | error e => exact hx pins σ H s e s' I hq
  | ok fl =>
    cases fl with
    | ret w => exact I.after hq
    | next => exact False.elim hq
    | brk => exact False.elim hq
    | cont => exact False.elim hq
def rNeO (C : Addr) (sp : Sp) (E : XK) : R2 := fun x y H Q => IsC C x H ∧ Par C H y ∧ sp [x, y] H (fun v H' => ∃ k, v = .bl k ∧ Q (.bl (!k)) H') E
theorem ne_back {pins : List (Addr × Obj)} {σ : St} {Q : VK} {v : Value} {s' : Shared} (h : EP X pins σ (fun v H' => ∃ k, v = .bl k ∧ Q (.bl (!k)) H') v s') : ∃ k, v = .bool k ∧ EP X pins σ Q (.bool (!k)) s' := by
  obtain ⟨x, H', I, r, k, rfl, q⟩ := h
  cases r
  exact ⟨k, rfl, .bl (!k), H', I, rfl, q⟩
theorem op_neO (T : Opc X.K C) (hn : PySem.W.findIn X.K (.ref C) "__ne__" = some (some (.builtin "object.__ne__"))) (hs : PySem.W.findIn X.K (.ref C) "__eq__" = some (some (.ref f))) (hf : PySem.W.isFn X.K (.ref f) = true)
    (F : FnOk X.prog X.w X.K X.mg X.base CX n f fd ps sp) (hr : Room (n + 1) X.A) (hb : Binds X.K fd ps []) (hx : Passes CX X E) : OpR X (compareOp .NotEq) (rNeO C sp E) := by
  intro pins s σ H x y v u Q I rx ry h
  obtain ⟨⟨a, dx, fs, rfl, ha⟩, p, q⟩ := h
  obtain ⟨tb, lb, nf⟩ := p.look I ry
  cases rx
  obtain ⟨mA, J, _⟩ := ins_get I.hok ha
  obtain ⟨od, J, _⟩ := J.look
  show wpAny _ _ (richCompare .NotEq (.ref a) u) _ _ _
  exact cmpL_K hr.units0 I.kIn J lb nf (tryNe_K (hu_of hr) I.kIn J hn T.obj hs hf (wpAny_mono (run_in1 F hr hb hx I (v2ry _ ry) q) (fun v s' z => ne_back z) fun _ _ e => e))
def rNeOR (C : Addr) (sp : Sp) (E : XK) : R2 := fun x y H Q => (∃ i, x = .int i) ∧ IsC C y H ∧ sp [y, x] H (fun v H' => ∃ k, v = .bl k ∧ Q (.bl (!k)) H') E
theorem op_neOR (T : Opc X.K C) (IC : IntCmp .NotEq) (hn : PySem.W.findIn X.K (.ref C) "__ne__" = some (some (.builtin "object.__ne__"))) (hs : PySem.W.findIn X.K (.ref C) "__eq__" = some (some (.ref f))) (hf : PySem.W.isFn X.K (.ref f) = true)
    (F : FnOk X.prog X.w X.K X.mg X.base CX n f fd ps sp) (hr : Room (n + 1) X.A) (hb : Binds X.K fd ps []) (hx : Passes CX X E) : OpR X (compareOp .NotEq) (rNeOR C sp E) := by
  intro pins s σ H x y v u Q I rx ry h
  obtain ⟨⟨i, rfl⟩, ⟨a, dx, fs, rfl, ha⟩, q⟩ := h
  cases ry
  obtain ⟨t, rfl⟩ := rx
  obtain ⟨mA, J, _⟩ := ins_get I.hok ha
  obtain ⟨od, J, _⟩ := J.look
  obtain ⟨id, B, s1, s2, s3, s4⟩ := IC.sl
  show wpAny _ _ (richCompare .NotEq _ _) _ _ _
  exact cmpR_K hr.units0 I.kIn J rfl T.nInt s1 s2 (s3 _ _ _) s4 (tryNe_K (hu_of hr) I.kIn J hn T.obj hs hf (wpAny_mono (run_in1 F hr hb hx I (v2ri _ _ _) q) (fun v s' z => ne_back z) fun _ _ e => e))
end
end Mo

namespace Mo
open PySem PySem.W PySem.Calls PyProof.Rows
section
variable {prog : Program} {w : World} {M : Model} {A : Around} {E : Value → Shared → Prop} {s : Shared} {K : Frag} {x C L f : Addr} {h₀ : Heap} {m : Str → Option Value} {ox : Obj} {od : Option Obj}
/-- the class's mro is itself and object -/
def twoUp (K : Frag) (C : Addr) : Bool := (clsIn K C).any fun cd => cd.mro == [.ref C, .type "object"]
theorem noInpl {op : Operator} {h : Heap} {add : Bool} (X : K.In h) (h2 : twoUp K C = true) (hi : findIn K (.ref C) (dunderI op.info.2) = some none) (ho : ∀ M : Model, Looks M h (typeLookup (.type "object") (dunderI op.info.2)) none) : Looks M h (fillsInplaceSlot (.ref C) op.info.2 add) false := by
  intro A Q E s k q
  obtain ⟨cd, hc, hm0⟩ := any_some h2
  have hm : cd.mro = [.ref C, .type "object"] := beq_iff_eq.mp hm0
  have Lm : Looks M h (mroOf (.ref C)) cd.mro := (looks_clsIn X hc).andThen (f := fun cd => pure cd.mro) .now
  have Lm' := Lm.keeps k
  have L2 := (ho M).keeps k
  obtain ⟨hh, g, d, tt, os⟩ := s
  have X' : K.In hh := X.keeps k
  have L1 : Looks M hh (typeLookup (.ref C) (dunderI op.info.2)) none := looks_findIn X' hi
  unfold fillsInplaceSlot
  refine wpAny_bind (Lm'.at ?_)
  rw [hm, List.anyM_cons]
  refine wpAny_bind ?_
  repeat lk
  exact q
/-- what both of an own class's two-place operators come to: the left one's method -/
theorem bin1_same {nm : String} {b : Value} {Q : Value → Shared → Prop} (X : K.In s.heap) (I : InstAt s.heap x ox C od) (hb : Looks (model prog w) s.heap (typeOf b) (.ref C)) (hc : selfFirst K C = true)
    (hs : findIn K (.ref C) (PySem.dunder nm) = some (some (.ref f))) (hf : isFn K (.ref f) = true) (h : wpAny (model prog w) A (call (.ref f) [.ref x, b]) (W.CmpBack Q) E s) :
    wpAny (model prog w) A (binaryOp1 nm (.ref x) b) (fun r s' => ∃ v, r = some v ∧ Q v s') E s := by
  obtain ⟨cd, rest, hcd, hm⟩ := ksp_first hc
  have one := ksp_try X I hs hf h
  have Lf : Looks (model prog w) s.heap (fillsNumberSlot (.ref C) nm) true := fills_K X hcd hm hs
  unfold binaryOp1
  refine wpAny_bind (I.type.here (wpAny_bind (hb.here (wpAny_bind (Lf.here ?_)))))
  simp only [beq_self_eq_true, if_true]
  refine wpAny_bind (wpAny_pure ?_)
  simp only [Bool.and_false, Bool.false_eq_true, if_false, Bool.false_and]
  refine wpAny_bind (wpAny_pure ?_)
  simp only [Bool.false_eq_true, if_false]
  refine wpAny_bind (m := tryMethod (.ref x) _ b) (wpAny_mono one (fun r s' ⟨v, e, hq⟩ => ?_) fun _ _ e => e)
  subst e
  exact wpAny_pure ⟨v, rfl, hq⟩
theorem bin1_type {nm T : String} {b : Value} {fo ro rc : Option Value} {Q : Value → Shared → Prop} (X : K.In s.heap) (I : InstAt s.heap x ox C od) (hb : typeOf b = pure (.type T)) (hc : selfFirst K C = true)
    (hs : findIn K (.ref C) (PySem.dunder nm) = some (some (.ref f))) (hf : isFn K (.ref f) = true) (hr : findIn K (.ref C) (dunderR nm) = some rc) (hp : rc = none ∨ ∃ g : Addr, rc = some (.ref g))
    (h1 : findIn K (.type T) (PySem.dunder nm) = some fo) (h2 : findIn K (.type T) (dunderR nm) = some ro) (hsub : subIn K (.type T) (.ref C) = some false)
    (h : wpAny (model prog w) A (call (.ref f) [.ref x, b]) (W.CmpBack Q) E s) : wpAny (model prog w) A (binaryOp1 nm (.ref x) b) (fun r s' => ∃ v, r = some v ∧ Q v s') E s := by
  obtain ⟨cd, rest, hcd, hm⟩ := ksp_first hc
  have one := ksp_try X I hs hf h
  obtain ⟨hh, g, d, tk, os⟩ := s
  have M1 : Looks (model prog w) hh (typeOf (.ref x)) (.ref C) := I.type
  have M2 : Looks (model prog w) hh (typeOf b) (.type T) := Looks.of_pure hb
  have M3 : Looks (model prog w) hh (fillsNumberSlot (.ref C) nm) true := fills_K X hcd hm hs
  have M4 : Looks (model prog w) hh (fillsNumberSlot (.type T) nm) ((fo.isSome && !isSeqSlot fo) || (ro.isSome && !isSeqSlot ro)) := ksp_fillsT X h1 h2
  have M5 : Looks (model prog w) hh (isSubtype (.type T) (.ref C)) false := looks_subIn X hsub
  have M6 : Looks (model prog w) hh (numberSlotInPython (.ref C) nm) true := ksp_inPy X hs hr hp
  have M7 : Looks (model prog w) hh (numberSlotInPython (.type T) nm) false := Looks.of_pure rfl
  have M8 : Looks (model prog w) hh (typeLookup (.type T) (dunderR nm)) ro := looks_findIn X h2
  generalize ((fo.isSome && !isSeqSlot fo) || (ro.isSome && !isSeqSlot ro)) = right at M4
  have hne : (Value.ref C == Value.type T) = false := Bool.eq_false_iff.mpr fun q => by cases beq_iff_eq.mp q
  unfold binaryOp1
  refine wpAny_bind (M1.at (wpAny_bind (M2.at (wpAny_bind (M3.at ?_)))))
  simp only [hne, Bool.false_eq_true, if_false]
  cases right <;> (ksp_lk; refine wpAny_mono one (fun r s' hr' => ?_) fun _ _ e => e; obtain ⟨v, rfl, hq⟩ := hr'; ksp_lk; exact ⟨v, rfl, hq⟩)
theorem inpl_K {op : Operator} {b : Value} {Q : Value → Shared → Prop} (X : K.In s.heap) (I : InstAt s.heap x ox C od) (h2 : twoUp K C = true) (hi : findIn K (.ref C) (dunderI op.info.2) = some none) (ho : ∀ (M : Model) (h : Heap), Looks M h (typeLookup (.type "object") (dunderI op.info.2)) none)
    (h : wpAny (model prog w) A (binaryOp1 op.info.2 (.ref x) b) (fun r s' => ∃ v, r = some v ∧ Q v s') E s) : wpAny (model prog w) A (inplaceOp op (.ref x) b) Q E s := by
  have N : Looks (model prog w) s.heap (fillsInplaceSlot (.ref C) op.info.2 (op == .Add)) false := noInpl X h2 hi fun M => ho M _
  unfold inplaceOp
  refine wpAny_holding (wpAny_bind (I.type.here (wpAny_bind (N.here ?_))))
  rw [if_neg Bool.false_ne_true]
  refine wpAny_bind (wpAny_mono h (fun r s' hr' => ?_) fun _ _ e => e)
  obtain ⟨v, rfl, hq⟩ := hr'
  exact wpAny_pure hq
end
open L2
section
variable {X : Cx} {CX : CXT} {n k : Nat} {f f₁ C : Addr} {fd : FuncData} {ps : List Str} {sp : Sp} {E : XK}
/-- a op= b, the class without the in-place method -/
theorem iop_own {op : Operator} (T : Opc X.K C) (h2 : twoUp X.K C = true) (hi : PySem.W.findIn X.K (.ref C) (dunderI op.info.2) = some none) (ho : typeLookup (.type "object") (dunderI op.info.2) = pure none)
    (IO : IntOp op) (O : Op2 X.K C op.info.2 f) (F : FnOk X.prog X.w X.K X.mg X.base CX n f fd ps sp) (hr : Room n X.A) (hb : Binds X.K fd ps []) (hx : Passes CX X E) : OpR X (inplaceOp op) (rOwn C sp E) := by
  intro pins s σ H x y v u Q I rx ry h
  obtain ⟨⟨a, dx, fs, rfl, ha⟩, hy, q⟩ := h
  cases rx
  obtain ⟨mA, J, _⟩ := ins_get I.hok ha
  obtain ⟨od, J, _⟩ := J.look
  refine inpl_K I.kIn J h2 hi (fun M h => Looks.of_pure ho) ?_
  rcases hy with ⟨b, dy, gs, rfl, hb'⟩ | ⟨i, rfl⟩
  · cases ry
    obtain ⟨mB, J', _⟩ := ins_get I.hok hb'
    obtain ⟨od', J', _⟩ := J'.look
    exact bin1_same I.kIn J J'.type T.sf O.at_ O.fn (run_op F hr hb hx I (v2rr _ _) q)
  · obtain ⟨t, rfl⟩ := ry
    obtain ⟨fo, ro, e1, e2⟩ := IO.fo
    obtain ⟨g, e3⟩ := O.rr
    obtain ⟨rc, e4, e5⟩ : ∃ rc, PySem.W.findIn X.K (.ref C) (PySem.dunderR op.info.2) = some rc ∧ (rc = none ∨ ∃ g : Addr, rc = some (.ref g)) := by
      rcases e3 with e3 | e3
      · exact ⟨_, e3, .inl rfl⟩
      · exact ⟨_, e3, .inr ⟨g, rfl⟩⟩
    exact bin1_type (T := "int") I.kIn J rfl T.sf O.at_ O.fn e4 e5 (e1 _) (e2 _) nf_int (run_op F hr hb hx I (v2ri _ _ _) q)
/-! the operators' facts of int -/
theorem dec_fdiv : Declines Builtin.«int.__floordiv__» := by
  intro M A E s i t x ox Q hx hd h
  obtain ⟨hp, g', d, tk, os⟩ := s
  unfold Builtin.«int.__floordiv__» Builtin.Int.intBinary
  wp_walk using wpAny_loadPart' hx
  rw [hd]
  wp_walk using wpAny_loadPart' hx
  rw [hd]
  wp_walk
  exact h
theorem io_add : IntOp .Add := ⟨some (.builtin "int.__add__"), some (.builtin "int.__radd__"), fun K => (show PySem.fastLookup "int" (PySem.dunder "add") = _ by decide +kernel), fun K => (show PySem.fastLookup "int" (PySem.dunderR "add") = _ by decide +kernel)⟩
theorem ir_add : IntOpR .Add := ⟨⟨_, _, PySem.F.slot_int_add, PySem.F.entry_int_add, fun _ _ _ => PySem.F.args_int_add_2 _ _, dec_bin⟩, PySem.F.fills_int_add⟩
theorem io_sub : IntOp .Sub := ⟨some (.builtin "int.__sub__"), some (.builtin "int.__rsub__"), fun K => (show PySem.fastLookup "int" (PySem.dunder "sub") = _ by decide +kernel), fun K => (show PySem.fastLookup "int" (PySem.dunderR "sub") = _ by decide +kernel)⟩
theorem ir_sub : IntOpR .Sub := ⟨⟨_, _, PySem.F.slot_int_sub, PySem.F.entry_int_sub, fun _ _ _ => PySem.F.args_int_sub_2 _ _, dec_bin⟩, PySem.F.fills_int_sub⟩
theorem io_mul : IntOp .Mult := ⟨some (.builtin "int.__mul__"), some (.builtin "int.__rmul__"), fun K => (show PySem.fastLookup "int" (PySem.dunder "mul") = _ by decide +kernel), fun K => (show PySem.fastLookup "int" (PySem.dunderR "mul") = _ by decide +kernel)⟩
theorem ir_mul : IntOpR .Mult := ⟨⟨_, _, PySem.F.slot_int_mul, PySem.F.entry_int_mul, fun _ _ _ => PySem.F.args_int_mul_2 _ _, dec_bin⟩, PySem.F.fills_int_mul⟩
theorem io_floordiv : IntOp .FloorDiv := ⟨some (.builtin "int.__floordiv__"), some (.builtin "int.__rfloordiv__"), fun K => (show PySem.fastLookup "int" (PySem.dunder "floordiv") = _ by decide +kernel), fun K => (show PySem.fastLookup "int" (PySem.dunderR "floordiv") = _ by decide +kernel)⟩
theorem ir_floordiv : IntOpR .FloorDiv := ⟨⟨_, _, PySem.F.slot_int_floordiv, PySem.F.entry_int_floordiv, fun _ _ _ => PySem.F.args_int_floordiv_2 _ _, dec_fdiv⟩, PySem.F.fills_int_floordiv⟩
theorem io_mod : IntOp .Mod := ⟨some (.builtin "int.__mod__"), some (.builtin "int.__rmod__"), fun K => (show PySem.fastLookup "int" (PySem.dunder "mod") = _ by decide +kernel), fun K => (show PySem.fastLookup "int" (PySem.dunderR "mod") = _ by decide +kernel)⟩
theorem ir_mod : IntOpR .Mod := ⟨⟨_, _, PySem.F.slot_int_mod, PySem.F.entry_int_mod, fun _ _ _ => PySem.F.args_int_mod_2 _ _, dec_bin⟩, PySem.F.fills_int_mod⟩
theorem ic_lt : IntCmp .Lt := ⟨fun _ _ => rfl, ⟨_, _, PySem.F.slot_int_lt, PySem.F.entry_int_lt, fun _ _ _ => PySem.F.args_int_lt_2 _ _, dec_bin⟩⟩
theorem ic_le : IntCmp .LtE := ⟨fun _ _ => rfl, ⟨_, _, PySem.F.slot_int_le, PySem.F.entry_int_le, fun _ _ _ => PySem.F.args_int_le_2 _ _, dec_bin⟩⟩
theorem ic_gt : IntCmp .Gt := ⟨fun _ _ => rfl, ⟨_, _, PySem.F.slot_int_gt, PySem.F.entry_int_gt, fun _ _ _ => PySem.F.args_int_gt_2 _ _, dec_bin⟩⟩
theorem ic_ge : IntCmp .GtE := ⟨fun _ _ => rfl, ⟨_, _, PySem.F.slot_int_ge, PySem.F.entry_int_ge, fun _ _ _ => PySem.F.args_int_ge_2 _ _, dec_bin⟩⟩
theorem ic_eq : IntCmp .Eq := ⟨fun _ _ => rfl, ⟨_, _, PySem.F.slot_int_eq, PySem.F.entry_int_eq, fun _ _ _ => PySem.F.args_int_eq_2 _ _, dec_bin⟩⟩
theorem ic_ne : IntCmp .NotEq := ⟨fun _ _ => rfl, ⟨_, _, PySem.F.slot_int_ne, PySem.F.entry_int_ne, fun _ _ _ => PySem.F.args_int_ne_2 _ _, dec_bin⟩⟩
end
end Mo

namespace Mo
open PySem L2
/-! ### fractions in lowest terms -/
def Red (t b : Int) : Prop := 0 < b ∧ Int.gcd t b = 1
structure Norm (n d t b : Int) : Prop where
  pos : 0 < b
  gcd : Int.gcd t b = 1
  eq : t * d = n * b
  tle : t.natAbs ≤ n.natAbs
  ble : b.natAbs ≤ d.natAbs
theorem Norm.red {n d t b : Int} (h : Norm n d t b) : Red t b := ⟨h.pos, h.gcd⟩
def sg (n d : Int) : Int := if 0 < d then ((Nat.gcd n.natAbs d.natAbs : Nat) : Int) else -((Nat.gcd n.natAbs d.natAbs : Nat) : Int)
theorem sg_ne {n d : Int} (hd : d ≠ 0) : sg n d ≠ 0 := by
  have hg : 0 < Nat.gcd n.natAbs d.natAbs := Nat.gcd_pos_of_pos_right _ (by omega)
  unfold sg
  split <;> omega
theorem sg_le {n d : Int} (hd : d ≠ 0) : (sg n d).natAbs ≤ d.natAbs := by
  have hg : Nat.gcd n.natAbs d.natAbs ≤ d.natAbs := Nat.gcd_le_right _ (by omega)
  unfold sg
  split <;> omega
theorem norm_mk {n d : Int} (hd : d ≠ 0) : Norm n d (n.fdiv (sg n d)) (d.fdiv (sg n d)) := by
  have hg : 0 < Nat.gcd n.natAbs d.natAbs := Nat.gcd_pos_of_pos_right _ (by omega)
  have hne := sg_ne (n := n) hd
  have habs : (sg n d).natAbs = Int.gcd n d := by
    show _ = Nat.gcd n.natAbs d.natAbs
    unfold sg
    split <;> omega
  have hs1 : 0 < d → 0 < sg n d := fun h0 => by unfold sg; rw [if_pos h0]; omega
  have hs2 : d < 0 → sg n d < 0 := fun h0 => by unfold sg; rw [if_neg (by omega)]; omega
  have hn : sg n d ∣ n := by
    rw [← Int.natAbs_dvd, habs]
    exact Int.gcd_dvd_left n d
  have hdd : sg n d ∣ d := by
    rw [← Int.natAbs_dvd, habs]
    exact Int.gcd_dvd_right n d
  generalize sg n d = g at *
  obtain ⟨n', en⟩ := hn
  obtain ⟨d', ed⟩ := hdd
  subst en
  subst ed
  rw [Int.mul_fdiv_cancel_left _ hne, Int.mul_fdiv_cancel_left _ hne]
  have hp : 0 < g.natAbs := by omega
  have hgg : Int.gcd n' d' = 1 := by
    rw [Int.gcd_mul_left] at habs
    exact Nat.eq_of_mul_eq_mul_left hp (by rw [Nat.mul_one]; exact habs.symm)
  refine ⟨?_, hgg, ?_, ?_, ?_⟩
  · by_cases h0 : 0 < g * d'
    · exact Int.lt_of_mul_lt_mul_left (a := g) (by rw [Int.mul_zero]; exact h0) (Int.le_of_lt (hs1 h0))
    · have h1 : g * d' < 0 := by omega
      have h2 : 0 < (-g) * d' := by rw [Int.neg_mul]; omega
      exact Int.lt_of_mul_lt_mul_left (a := -g) (by rw [Int.mul_zero]; exact h2) (by have := hs2 h1; omega)
  · rw [Int.mul_left_comm, Int.mul_assoc]
  · rw [Int.natAbs_mul]
    exact Nat.le_mul_of_pos_left _ hp
  · rw [Int.natAbs_mul]
    exact Nat.le_mul_of_pos_left _ hp
theorem red_dvd {t b t' b' : Int} (h : Int.gcd t b = 1) (e : t * b' = t' * b) : b ∣ b' := by
  have h1 : b.natAbs ∣ t.natAbs * b'.natAbs := by
    rw [← Int.natAbs_mul, e, Int.natAbs_mul]
    exact Nat.dvd_mul_left _ _
  have h2 : Nat.Coprime b.natAbs t.natAbs := by
    show Nat.gcd b.natAbs t.natAbs = 1
    rw [Nat.gcd_comm]
    exact h
  exact Int.natAbs_dvd_natAbs.mp (h2.dvd_of_dvd_mul_left h1)
theorem red_eq {t b t' b' : Int} (h : Red t b) (h' : Red t' b') (e : t * b' = t' * b) : t = t' ∧ b = b' := by
  have d1 := red_dvd h.2 e
  have d2 := red_dvd h'.2 e.symm
  have hb : b = b' := Int.dvd_antisymm (Int.le_of_lt h.1) (Int.le_of_lt h'.1) d1 d2
  subst hb
  exact ⟨Int.eq_of_mul_eq_mul_right (by have := h.1; omega) e, rfl⟩
theorem red_iff {t b t' b' : Int} (h : Red t b) (h' : Red t' b') : (t = t' ∧ b = b') ↔ t * b' = t' * b :=
  ⟨fun ⟨e1, e2⟩ => by rw [e1, e2], red_eq h h'⟩
/-! ### sizes -/
def Sm (k : Nat) (n : Int) : Prop := n.natAbs < 2 ^ k
theorem Sm.mono {k j : Nat} {n : Int} (h : Sm k n) (hk : k ≤ j) : Sm j n := Nat.lt_of_lt_of_le h (Nat.pow_le_pow_right (by decide) hk)
theorem Sm.mul {k j : Nat} {n m : Int} (h : Sm k n) (h' : Sm j m) : Sm (k + j) (n * m) := wide_lt h h'
theorem Sm.add {k : Nat} {n m : Int} (h : Sm k n) (h' : Sm k m) : Sm (k + 1) (n + m) := by
  unfold Sm at *
  rw [Nat.pow_succ]
  omega
theorem Sm.sub {k : Nat} {n m : Int} (h : Sm k n) (h' : Sm k m) : Sm (k + 1) (n - m) := by
  unfold Sm at *
  rw [Nat.pow_succ]
  omega
theorem Sm.neg {k : Nat} {n : Int} (h : Sm k n) : Sm k (-n) := by
  unfold Sm at *
  omega
theorem Sm.le {k : Nat} {n m : Int} (h : Sm k m) (h' : n.natAbs ≤ m.natAbs) : Sm k n := Nat.lt_of_le_of_lt h' h
theorem Sm.of {k : Nat} {n m : Int} (h : -m ≤ n ∧ n ≤ m) (hm : m.natAbs < 2 ^ k) : Sm k n := Nat.lt_of_le_of_lt (by omega) hm
theorem Sm.cmul {k j : Nat} {n m : Int} (h : Sm k n) (h' : Sm j m) (h0 : 0 < k := by decide) (h1 : 0 < j := by decide) (hk : k + j ≤ 1000000 := by decide) : CMulW n m := wide_mul h h' h0 h1 hk
/-- // by a divisor that is not 0, below 2 ^ 9000 -/
def CDivNW (_ j : Int) : Prop := j ≠ 0 ∧ j.natAbs.log2 < 9000
theorem op_fdivNW {X : Cx} : OpR X (binaryOp .FloorDiv) (rI CDivNW fun i j => .int (i.fdiv j)) := opI fun i j _ _ _ _ _ hc q => PyProof.Rows.floordiv_int hc.1 q (.inl (PyProof.noPylong_of_log2 hc.2))
theorem Sm.cdiv {k : Nat} {i j : Int} (h : Sm k j) (h0 : j ≠ 0) (h1 : 0 < k := by decide) (hk : k ≤ 9000 := by decide) : CDivNW i j := ⟨h0, Nat.lt_of_lt_of_le (PySem.Flt.log2_lt_of h1 h) hk⟩
end Mo

namespace Mo
open PySem L2
open Evl (Ex)
/-! ### a moment as an object -/
def mf (t b : Int) : List (Str × V) := putF "bottom" (.int b) (putF "top" (.int t) [])
theorem ntb : ¬ (("top" : Str) = "bottom") := by decide +kernel
theorem mf_eq (t b : Int) : mf t b = ([("top", V.int t), ("bottom", V.int b)] : List (Str × V)) := by
  show (if ("top" : Str) = "bottom" then [(("top" : Str), V.int b)] else (("top" : Str), V.int t) :: putF "bottom" (V.int b) []) = ([("top", V.int t), ("bottom", V.int b)] : List (Str × V))
  rw [if_neg ntb]
  all_goals rfl
theorem mf_top (t b : Int) : (mf t b).lookup ("top" : Str) = some (.int t) := by
  unfold mf
  rw [lookup_putF, if_neg ntb, lookup_putF, if_pos rfl]
theorem mf_bottom (t b : Int) : (mf t b).lookup ("bottom" : Str) = some (.int b) := by
  unfold mf
  rw [lookup_putF, if_pos rfl]
theorem mf_no (t b : Int) {m : Str} (h1 : ¬ m = "bottom") (h2 : ¬ m = "top") : (mf t b).lookup m = none := by
  unfold mf
  rw [lookup_putF, if_neg h1, lookup_putF, if_neg h2]
  all_goals rfl
def Mo (C : Addr) (t b : Int) (v : V) (H : Hp) : Prop := ∃ a dx, v = .ref a ∧ H a = some (.ins C dx (mf t b))
theorem Mo.ex {C : Addr} {t b : Int} {v : V} {H H' : Hp} (h : Mo C t b v H) (e : Ex H H') : Mo C t b v H' := by
  obtain ⟨a, dx, r, q⟩ := h
  exact ⟨a, dx, r, e _ _ q⟩
theorem Mo.isC {C : Addr} {t b : Int} {v : V} {H : Hp} (h : Mo C t b v H) : IsC C v H := by
  obtain ⟨a, dx, r, q⟩ := h
  exact ⟨a, dx, _, r, q⟩
theorem Mo.par {C : Addr} {t b : Int} {v : V} {H : Hp} (h : Mo C t b v H) : Par C H v := by
  obtain ⟨a, dx, rfl, q⟩ := h
  exact .ins q
/-- the fraction of a time: a moment, or an int -/
def Tm (C : Addr) (t b : Int) (v : V) (H : Hp) : Prop := Mo C t b v H ∨ (v = .int t ∧ b = 1)
theorem Tm.ex {C : Addr} {t b : Int} {v : V} {H H' : Hp} (h : Tm C t b v H) (e : Ex H H') : Tm C t b v H' := h.elim (fun h => .inl (h.ex e)) .inr
theorem Tm.par {C : Addr} {t b : Int} {v : V} {H : Hp} (h : Tm C t b v H) : Par C H v := by
  rcases h with h | ⟨rfl, _⟩
  · exact h.par
  · exact .int _
theorem Tm.op {C : Addr} {t b : Int} {v : V} {H : Hp} (h : Tm C t b v H) : IsC C v H ∨ ∃ i, v = .int i := by
  rcases h with h | ⟨rfl, _⟩
  · exact .inl h.isC
  · exact .inr ⟨_, rfl⟩
/-! ### a def, a method, a class as the top has left them -/
section
variable (P : Program) (w : World) (K : PySem.W.Frag) (mg : Str → Option Value) (base : Heap)
/-- a def by its name, that keeps sp -/
def Ok (CX : CXT) (k : Nat) (x : Str) (ps : List Str) (sp : Sp) : Prop := ∃ f fd, FnOk P w K mg base CX k f fd ps sp ∧ mg x = some (.ref f) ∧ PySem.W.keepIn K (.ref f) = true ∧ Binds K fd ps []
/-- a method of the class at C -/
def OkM (C : Addr) (CX : CXT) (k : Nat) (x : Str) (ps : List Str) (sp : Sp) : Prop := ∃ f fd, FnOk P w K mg base CX k f fd ps sp ∧ PySem.W.findIn K (.ref C) x = some (some (.ref f)) ∧ PySem.W.isFn K (.ref f) = true ∧ PySem.W.keepIn K (.ref f) = true ∧ Binds K fd ps []
end
/-! ### promises -/
def spCell (K : PySem.W.Frag) : Sp := fun vs H Q _ => ∃ (l : Addr) (ns : List Int) (j : Int), vs = [.ref l, .int j] ∧ SqL K H l (ns.map V.int) ∧ 0 ≤ j ∧ ns.length ≤ 63 ∧ ∀ z : Int, Q (.int z) H
def spRow (K : PySem.W.Frag) : Sp := fun vs H Q _ => ∃ (c : Int) (l : Addr) (zs : List Int), vs = [.int c, .ref l] ∧ SqL K H l (zs.map V.int) ∧ zs.length ≤ 40 ∧ (∀ z ∈ zs, 0 < z ∧ z < 1073741824) ∧
  ∀ (p : Addr) (ys : List Int) (H' : Hp), Ex H H' → H' p = some (.lst (ys.map V.int)) → ys.length = zs.length → (∀ (i : Nat) (y z : Int), ys[i]? = some y → zs[i]? = some z → 0 ≤ y ∧ y < z) → Q (.ref p) H'
def spWhole : Sp := fun vs H Q _ => ∃ c m : Int, vs = [.int c, .int m] ∧ 0 < m ∧ Sm 1000 m ∧ ∀ z : Int, -m ≤ z → z ≤ m → Q (.int z) H
def spRatio : Sp := fun vs H Q _ => ∃ a b m : Int, vs = [.int a, .int b, .int m] ∧ 0 < m ∧ Sm 1000 m ∧ ∀ (t d : Int) (p : Addr) (H' : Hp), Ex H H' → H' p = some (.tup [.int t, .int d]) → -m ≤ t → t ≤ m → -m ≤ d → d ≤ m → d ≠ 0 → Q (.ref p) H'
def spGcd : Sp := fun vs H Q _ => ∃ a b : Int, vs = [.int a, .int b] ∧ Sm 8000 a ∧ Sm 8000 b ∧ Q (.int ((Int.gcd a b : Nat) : Int)) H
def spIsInt : Sp := fun vs H Q _ => ∃ a : Int, vs = [.int a] ∧ ∀ H', Ex H H' → Q (.bl true) H'
def spHolds (C : Addr) : Sp := fun vs H Q _ => ∃ (x : V) (t b n d : Int), vs = [x, .int n, .int d] ∧ Mo C t b x H ∧ Red t b ∧ t * d = n * b ∧ Sm 4000 t ∧ Sm 4000 b ∧ Sm 4000 n ∧ Sm 4000 d ∧ ∀ H', Ex H H' → Q (.bl true) H'
/-- Moment(n, d); CN: NoMoment -/
def spInit (C CN : Addr) : Sp := fun vs H Q E => ∃ (p dx : Addr) (n d : Int), vs = [.ref p, .int n, .int d] ∧ H p = some (.ins C dx []) ∧ Sm 8000 n ∧ Sm 8000 d ∧
  (d = 0 → ∀ (dd : Addr) (fs : List (Str × V)) (H' : Hp), H dd = none → fs.lookup ("top" : Str) = some (.int n) → fs.lookup ("bottom" : Str) = some (.int 0) → H' dd = some (.xd fs) → (∀ q o, H q = some o → H' q = some o) → E (.ref CN) (some dd) H') ∧
  (d ≠ 0 → ∀ t b : Int, Norm n d t b → Q .non (upd H p (.ins C dx (mf t b))))
end Mo
namespace Mo
open PySem L2
open Evl (Ex)
section
variable (P : Program) (w : World) (K : PySem.W.Frag) (mg : Str → Option Value) (base : Heap)
def psIn : List Str := ["self", "top", "bottom"]
/-- the class's maker -/
def OkI (C CN : Addr) : Prop := ∃ f fd ds, FnOk P w K mg base (L2.CX P w) 4 f fd psIn (spInit C CN) ∧ Mk K C f ∧ Binds K fd psIn [] ∧ Vals [.int 1] ds ∧ Binds K fd psIn ds
end
theorem made_ok {C : Addr} {H : Hp} {x dx : Addr} (t b : Int) (n1 : H x = none) (n2 : H dx = none) (h : dx ≠ x) :
    Ex H (upd (upd (upd H dx (.own x)) x (.ins C dx [])) x (.ins C dx (mf t b))) ∧ Mo C t b (.ref x) (upd (upd (upd H dx (.own x)) x (.ins C dx [])) x (.ins C dx (mf t b))) := by
  refine ⟨fun a o e => ?_, x, dx, rfl, upd_same⟩
  have q1 : a ≠ x := ne_of_none e n1
  have q2 : a ≠ dx := ne_of_none e n2
  rw [upd_ne q1, upd_ne q1, upd_ne q2]
  exact e
theorem mk_rd {C CN : Addr} {n d : Int} {H : Hp} {Q : VK} {E : XK} (sn : Sm 8000 n) (sd : Sm 8000 d) (hd : d ≠ 0) (k : ∀ (t b : Int) (v : V) (H' : Hp), Norm n d t b → Ex H H' → Mo C t b v H' → Q v H') :
    ∀ x dx, H x = none → H dx = none → dx ≠ x → spInit C CN (.ref x :: ([.int n, .int d] ++ [])) (upd (upd H dx (.own x)) x (.ins C dx [])) (fun v H2 => v = .non ∧ Q (.ref x) H2) E :=
  fun x dx n1 n2 n3 => ⟨x, dx, n, d, rfl, upd_same, sn, sd, fun z => absurd z hd, fun _ t b N => ⟨rfl, k t b _ _ N (made_ok t b n1 n2 n3).1 (made_ok t b n1 n2 n3).2⟩⟩
theorem mk_rd1 {C CN : Addr} {n : Int} {H : Hp} {Q : VK} {E : XK} (sn : Sm 8000 n) (k : ∀ (v : V) (H' : Hp), Ex H H' → Mo C n 1 v H' → Q v H') :
    ∀ x dx, H x = none → H dx = none → dx ≠ x → spInit C CN (.ref x :: ([.int n] ++ [.int 1])) (upd (upd H dx (.own x)) x (.ins C dx [])) (fun v H2 => v = .non ∧ Q (.ref x) H2) E :=
  fun x dx n1 n2 n3 => ⟨x, dx, n, 1, rfl, upd_same, sn, (by show (1 : Int).natAbs < 2 ^ 8000; exact Nat.lt_of_lt_of_le (by decide : (1 : Int).natAbs < 2 ^ 1) (Nat.pow_le_pow_right (by decide) (by decide))), fun z => absurd z (by decide), fun _ t b N => by
    have b1 : b = 1 := by
      have := N.pos
      have := N.ble
      omega
    have t1 : t = n := by
      have := N.eq
      rw [b1] at this
      omega
    rw [b1, t1]
    exact ⟨rfl, k _ _ (made_ok n 1 n1 n2 n3).1 (made_ok n 1 n1 n2 n3).2⟩⟩
def spIsTime (C : Addr) : Sp := fun vs H Q _ => ∃ (x : V) (t b : Int), vs = [x] ∧ Tm C t b x H ∧ ∀ H', Ex H H' → Q (.bl true) H'
def spAsM (C : Addr) : Sp := fun vs H Q _ => ∃ (x : V) (t b : Int), vs = [x] ∧ Tm C t b x H ∧ Sm 8000 t ∧ ∀ (v : V) (H' : Hp), Ex H H' → Mo C t b v H' → Q v H'
/-- a two-place operator: the exact fraction num / den, in lowest terms -/
def spBin (C : Addr) (num den : Int → Int → Int → Int → Int) : Sp := fun vs H Q _ => ∃ (x y : V) (t b t' b' : Int), vs = [x, y] ∧ Mo C t b x H ∧ Tm C t' b' y H ∧ 0 < b ∧ 0 < b' ∧ Sm 1900 t ∧ Sm 1900 b ∧ Sm 1900 t' ∧ Sm 1900 b' ∧
  ∀ (t2 b2 : Int) (v : V) (H' : Hp), Norm (num t b t' b') (den t b t' b') t2 b2 → Ex H H' → Mo C t2 b2 v H' → Q v H'
/-- its reflected twin: self the right operand -/
def spBinR (C : Addr) (num den : Int → Int → Int → Int → Int) : Sp := fun vs H Q _ => ∃ (x y : V) (t b t' b' : Int), vs = [x, y] ∧ Mo C t b x H ∧ Tm C t' b' y H ∧ 0 < b ∧ 0 < b' ∧ Sm 1900 t ∧ Sm 1900 b ∧ Sm 1900 t' ∧ Sm 1900 b' ∧
  ∀ (t2 b2 : Int) (v : V) (H' : Hp), Norm (num t' b' t b) (den t' b' t b) t2 b2 → Ex H H' → Mo C t2 b2 v H' → Q v H'
def nAdd (t b t' b' : Int) : Int := t * b' + t' * b
def nSub (t b t' b' : Int) : Int := t * b' - t' * b
def nMul (t _ t' _ : Int) : Int := t * t'
def dAll (_ b _ b' : Int) : Int := b * b'
end Mo
namespace Mo
open PySem L2
theorem sml {n : Int} {k : Nat} (h : n.natAbs < 2 ^ k) : Sm k n := h
theorem Sm.ofR {k : Nat} {n m : Int} (h1 : -m ≤ n) (h2 : n ≤ m) (hm : Sm k m) : Sm k n := Sm.of ⟨h1, h2⟩ hm
/-! exact arithmetic of fractions n / d, told by t / b -/
theorem add_eq {t2 b2 ta ba tb bb n1 d1 n2 d2 : Int} (N : Norm (nAdd ta ba tb bb) (dAll ta ba tb bb) t2 b2) (h1 : ta * d1 = n1 * ba) (h2 : tb * d2 = n2 * bb) (p1 : 0 < ba) (p2 : 0 < bb) : t2 * (d1 * d2) = (n1 * d2 + n2 * d1) * b2 := by
  have h : t2 * (ba * bb) = (ta * bb + tb * ba) * b2 := N.eq
  exact Int.eq_of_mul_eq_mul_left (Int.ne_of_gt (Int.mul_pos p1 p2)) (by grind)
theorem sub_eq {t2 b2 ta ba tb bb n1 d1 n2 d2 : Int} (N : Norm (nSub ta ba tb bb) (dAll ta ba tb bb) t2 b2) (h1 : ta * d1 = n1 * ba) (h2 : tb * d2 = n2 * bb) (p1 : 0 < ba) (p2 : 0 < bb) : t2 * (d1 * d2) = (n1 * d2 - n2 * d1) * b2 := by
  have h : t2 * (ba * bb) = (ta * bb - tb * ba) * b2 := N.eq
  exact Int.eq_of_mul_eq_mul_left (Int.ne_of_gt (Int.mul_pos p1 p2)) (by grind)
theorem mul_eq {t2 b2 ta ba tb bb n1 d1 n2 d2 : Int} (N : Norm (nMul ta ba tb bb) (dAll ta ba tb bb) t2 b2) (h1 : ta * d1 = n1 * ba) (h2 : tb * d2 = n2 * bb) (p1 : 0 < ba) (p2 : 0 < bb) : t2 * (d1 * d2) = (n1 * n2) * b2 := by
  have h : t2 * (ba * bb) = (ta * tb) * b2 := N.eq
  exact Int.eq_of_mul_eq_mul_left (Int.ne_of_gt (Int.mul_pos p1 p2)) (by grind)
theorem Norm.st {n d t b : Int} {k : Nat} (N : Norm n d t b) (h : Sm k n) : Sm k t := h.le N.tle
theorem Norm.sb {n d t b : Int} {k : Nat} (N : Norm n d t b) (h : Sm k d) : Sm k b := h.le N.ble
def spLaw (K : PySem.W.Frag) : Sp := fun vs H Q _ => ∃ (a : Addr) (ns : List Int), vs = [.ref a] ∧ SqL K H a (ns.map V.int) ∧ ns.length ≤ 63 ∧ ∀ H', Q (.bl true) H'
theorem _root_.L2.SqT.ex' {K : PySem.W.Frag} {H H' : Hp} {a : Addr} {xs : List V} (h : SqT K H a xs) (e : Evl.Ex H H') : SqT K H' a xs := Evl.ex_t e h
theorem _root_.L2.SqL.ex' {K : PySem.W.Frag} {H H' : Hp} {a : Addr} {xs : List V} (h : SqL K H a xs) (e : Evl.Ex H H') : SqL K H' a xs := Evl.ex_l e h
end Mo
namespace Mo
theorem eq_of {t a b n a' n' : Int} (z : t * a = n * b) (ha : a' = a := by first | rfl | exact Int.mul_comm _ _ | (simp only [Int.mul_one, Int.one_mul]; done))
    (hn : n' = n := by first | rfl | exact Int.mul_comm _ _ | omega | (simp only [Int.mul_one, Int.one_mul]; done) | (simp only [Int.mul_one, Int.one_mul]; omega)) : t * a' = n' * b := by rw [ha, hn, z]
end Mo
namespace Mo
open PySem L2
theorem kit_self {K : PySem.W.Frag} {C : Addr} : PySem.W.kitOne K (.ref C) (.ref C) = some true := by
  unfold PySem.W.kitOne
  rw [if_pos (beq_self_eq_true _)]
theorem kit_ct {K : PySem.W.Frag} {C : Addr} {T : String} {b : Bool} (h : PySem.W.subIn K (.ref C) (.type T) = some b) (hm : PySem.W.kitMeta T = true := by decide +kernel) : PySem.W.kitOne K (.ref C) (.type T) = some b := by
  unfold PySem.W.kitOne
  rw [if_neg (by intro z; cases beq_iff_eq.mp z)]
  show (if PySem.W.kitMeta T = true then PySem.W.subIn K (.ref C) (.type T) else none) = some b
  rw [if_pos hm, h]
theorem kit_tc {K : PySem.W.Frag} {C : Addr} {T : String} {b : Bool} (hc : PySem.W.isClsIn K C = true) (ht : PySem.W.typeIn K (.ref C) = some (.type "type")) (h : PySem.W.subIn K (.type T) (.ref C) = some b) : PySem.W.kitOne K (.type T) (.ref C) = some b := by
  unfold PySem.W.kitOne
  rw [if_neg (by intro z; cases beq_iff_eq.mp z)]
  have h2 : (PySem.W.clsIn K C).isSome = true := hc
  show (if ((PySem.W.clsIn K C).isSome && PySem.W.typeIn K (.ref C) == some (.type "type")) = true then PySem.W.subIn K (.type T) (.ref C) else none) = some b
  rw [if_pos (by rw [h2, ht]; rfl), h]
theorem two_up {K : PySem.W.Frag} {C : Addr} {cd : ClassData} (h : PySem.W.clsIn K C = some cd) (hm : cd.mro = [.ref C, .type "object"]) : twoUp K C = true := by
  unfold twoUp
  rw [h]
  show (cd.mro == [.ref C, .type "object"]) = true
  rw [hm]
  exact beq_self_eq_true _
end Mo

namespace Mo
open PySem L2
open Evl (Ex)
section
variable {X : Cx} {CX : CXT} {k : Nat} {f C : Addr} {fd : FuncData} {ps : List Str} {sp : Sp} {E : St → XK} {x m : Str} {p pos apos : Pos} {e o : Expr} {es : List Expr} {ta : TE} {t : TA} {dvs : List V} {ds : List Value}
/-- C(..) in a try: what its __init__ raises is wished for at the caller's slots -/
def tMakeS (C : Addr) (sp : Sp) (dvs : List V) (E : St → XK) (t : TA) : TE := fun σ H Q => t σ H fun vs H1 => ∀ x dx, H1 x = none → H1 dx = none → dx ≠ x →
  sp (.ref x :: (vs ++ dvs)) (upd (upd H1 dx (.own x)) x (.ins C dx [])) (fun v H2 => v = .non ∧ Q (.ref x) H2) (E σ)
theorem run_makeS {pins : List (Addr × Obj)} {σ : St} {H : Hp} {s : Shared} {Q : VK} {us : List Value} {vs : List V} (M : Mk X.K C f) (F : FnOk X.prog X.w X.K X.mg X.base CX k f fd ps sp) (hr : Room (k + 1) X.A) (hb : Binds X.K fd ps ds) (hd : Vals dvs ds)
    (hx : PassesAt CX X σ (E σ)) (I : Inv X pins σ H s) (r : Vals vs us)
    (h : ∀ x dx, H x = none → H dx = none → dx ≠ x → sp (.ref x :: (vs ++ dvs)) (upd (upd H dx (.own x)) x (.ins C dx [])) (fun v H2 => v = .non ∧ Q (.ref x) H2) (E σ)) :
    wpAny (model X.prog X.w) X.A (call (.ref C) us) (EP X pins σ Q) X.xe s := by
  have at_ := h (s.heap.objs.size + 1) s.heap.objs.size (I.hok.fresh (Nat.le_succ _)) (I.hok.fresh (Nat.le_refl _)) (Nat.ne_of_lt (Nat.lt_succ_self _))
  have made := Inv.made (C := C) I
  have rel : Vals (V.ref (s.heap.objs.size + 1) :: (vs ++ dvs)) (Value.ref (s.heap.objs.size + 1) :: (us ++ ds)) := .cons rfl (r.append hd)
  have len : (Value.ref (s.heap.objs.size + 1) :: us ++ ds).length = ps.length := by
    have z := rel.length
    rw [F.len _ _ _ _ at_] at z
    exact z.symm
  refine wpAny_call (make_map (f := f) I.kIn M.makes M.init (beq_iff_eq.mp M.fn) (codeAny_mono (F.run _ X.stack _ _ ⟨Value.ref (s.heap.objs.size + 1) :: us, []⟩ (Value.ref (s.heap.objs.size + 1) :: (us ++ ds)) _ _ (E σ) (hr.make C us []) (made.env0.make C us [])
    (hb _ (Value.ref (s.heap.objs.size + 1) :: us) made.kIn len) rel at_) fun res s' q => ?_))
  cases res with
  | error er => exact hx pins _ _ er s' made q
  | ok fl => cases fl with
    | ret u =>
      obtain ⟨v, H', J, rv, ev, q3⟩ := made.after q
      subst ev
      exact ⟨rv, V.ref (s.heap.objs.size + 1), H', J, rfl, q3⟩
    | next => exact q.elim
    | brk => exact q.elim
    | cont => exact q.elim
theorem pe_makeS (M : Mk X.K C f) (F : FnOk X.prog X.w X.K X.mg X.base CX k f fd ps sp) (hr : Room (k + 1) X.A) (hg : Gl X x) (hm : X.mg x = some (.ref C)) (hb : Binds X.K fd ps ds) (hd : Vals dvs ds) (hx : ∀ σ, PassesAt CX X σ (E σ)) (ha : PA X (e :: es) t)
    (hdb : (x == ("__debug__" : Str)) = false := by decide) (he : starEach (e :: es) X.env = (false, eval e X.env) :: starEach es X.env := by rfl) (hpl : (backTo pos (starEach es X.env)).any (·.1) = false := by rfl) :
    PE X (.Call (.Name x p) (e :: es) [] pos) (tMakeS C sp dvs E t) :=
  ⟨fun pins s σ H Q I h => wpAny_Call_Name_kw (ld_glob I hg hm (PySem.W.callWith_K (h₀ := X.base) I.ok.mod.kin M.kp (thn (ha.run pos pins s σ H _ I h) fun us s1 ⟨vs, H1, I1, r, q⟩ => ⟨I1.kIn, run_makeS M F hr hb hd (hx σ) I1 r q⟩) he hpl) hdb)⟩
end
/-- except C, for an error of C -/
theorem exm_own {K : PySem.W.Frag} {S : Addr} (h1 : PySem.W.subIn K (.ref S) (.type "BaseException") = some true) (h2 : PySem.W.isClsIn K S = true) (h3 : PySem.W.typeIn K (.ref S) = some (.type "type")) (h4 : PySem.W.subIn K (.ref S) (.ref S) = some true) : PySem.W.exmOne K (.ref S) (.ref S) = some true := by
  have h2' : (PySem.W.clsIn K S).isSome = true := h2
  show (if (PySem.W.subIn K (.ref S) (.type "BaseException") == some true) = true then (if ((PySem.W.clsIn K S).isSome && PySem.W.typeIn K (.ref S) == some (.type "type")) = true then PySem.W.subIn K (.ref S) (.ref S) else none) else none) = some true
  rw [if_pos (by rw [h1]; rfl), if_pos (by rw [h2', h3]; rfl), h4]
/-- what is no time -/
inductive Oth (H : Hp) : V → Prop where
  | str (z : Str) : Oth H (.str z)
  | non : Oth H .non
  | lst {a : Addr} {xs : List V} (e : H a = some (.lst xs)) : Oth H (.ref a)
  | tup {a : Addr} {xs : List V} (e : H a = some (.tup xs)) : Oth H (.ref a)
theorem Oth.par {C : Addr} {H : Hp} {y : V} (h : Oth H y) : Par C H y := by
  cases h with
  | str z => exact .str z
  | non => exact .non
  | lst e => exact .lst e
  | tup e => exact .tup e
/-- x == y -/
def spEq2 (C : Addr) : Sp := fun vs H Q _ => ∃ (x y : V) (t b : Int), vs = [x, y] ∧ Mo C t b x H ∧ ((∃ t' b' : Int, Mo C t' b' y H ∧ ∀ (k : Bool) (H' : Hp), Ex H H' → (k = true ↔ t = t' ∧ b = b') → Q (.bl k) H') ∨
  (∃ i : Int, y = .int i ∧ ∀ (k : Bool) (H' : Hp), Ex H H' → (k = true ↔ b = 1 ∧ t = i) → Q (.bl k) H') ∨ (Oth H y ∧ ∀ H', Ex H H' → Q (.bl false) H'))
/-- two lists of the same ints are equal -/
theorem op_eqL {X : Cx} {n : Nat} (hr : Room (n + 1) X.A) : OpR X (compareOp .Eq) (rEqG (DList DFlat)) := op_eqG (rcG_list mon_flat eqG_flat) (hr.mono (by omega))
theorem prs_ints : ∀ {H : Hp} (ns : List Int), Prs DFlat (ns.map V.int) (ns.map V.int) H
  | _, [] => .nil
  | _, n :: ns => .cons ⟨rfl, rfl, by simp [eqV]⟩ (prs_ints ns)
end Mo
namespace Mo
theorem iteB {c : Bool} {A B : Prop} (h : c = false) (hB : B) : if c = true then A else B := by
  subst h
  exact L2.iteF hB
theorem iteA {c : Bool} {A B : Prop} (h : c = true) (hA : A) : if c = true then A else B := by
  subst h
  exact L2.iteT hA
end Mo
namespace Mo
open PySem L2
open Evl (Ex)
/-- x < y and its like: what g says of the cross products -/
def spCmp (C : Addr) (g : Int → Int → Bool) : Sp := fun vs H Q _ => ∃ (x y : V) (t b t' b' : Int), vs = [x, y] ∧ Mo C t b x H ∧ Tm C t' b' y H ∧ Sm 1900 t ∧ Sm 1900 b ∧ Sm 1900 t' ∧ Sm 1900 b' ∧ ∀ H', Ex H H' → Q (.bl (g (t * b') (t' * b))) H'
def gLt (i j : Int) : Bool := decide (i < j)
def gLe (i j : Int) : Bool := decide (i ≤ j)
def gGt (i j : Int) : Bool := decide (j < i)
def gGe (i j : Int) : Bool := decide (j ≤ i)
/-- the two sides of a comparison: a moment first, or an int and a moment -/
def Two (C : Addr) (x : V) (t b : Int) (y : V) (t' b' : Int) (H : Hp) : Prop := (Mo C t b x H ∧ Tm C t' b' y H) ∨ ((x = .int t ∧ b = 1) ∧ Mo C t' b' y H)
theorem Two.ex {C : Addr} {x y : V} {t b t' b' : Int} {H H' : Hp} (h : Two C x t b y t' b' H) (e : Ex H H') : Two C x t b y t' b' H' := h.elim (fun h => .inl ⟨h.1.ex e, h.2.ex e⟩) fun h => .inr ⟨h.1, h.2.ex e⟩
/-- s: the sign of the first less the second -/
def spCompared (C : Addr) : Sp := fun vs H Q _ => ∃ (x y : V) (t b t' b' s : Int), vs = [x, y, .int s] ∧ Two C x t b y t' b' H ∧ Red t b ∧ Red t' b' ∧ Sm 1900 t ∧ Sm 1900 b ∧ Sm 1900 t' ∧ Sm 1900 b' ∧ (s < 0 ↔ t * b' < t' * b) ∧ (s = 0 ↔ t * b' = t' * b) ∧ ∀ H', Ex H H' → Q (.bl true) H'
theorem prs_flat : ∀ {H : Hp} {xs : List V}, (∀ x ∈ xs, flatV x = true ∧ eqV x x = true) → Prs DFlat xs xs H
  | _, [], _ => .nil
  | _, x :: xs, h => .cons ⟨(h x List.mem_cons_self).1, (h x List.mem_cons_self).1, (h x List.mem_cons_self).2⟩ (prs_flat fun y hy => h y (List.mem_cons_of_mem _ hy))
theorem red_one (i : Int) : Red i 1 := ⟨by decide, by unfold Int.gcd; simp⟩
/-- what a comparison by the own method, or by the int's side, hands on -/
theorem cmp_two {C : Addr} {x y : V} {t b t' b' : Int} {H : Hp} {g g' : Int → Int → Bool} {Q : VK} (h : Two C x t b y t' b' H) (st : Sm 1900 t) (sb : Sm 1900 b) (st' : Sm 1900 t') (sb' : Sm 1900 b') (hg : ∀ i j, g' i j = g j i)
    (k : ∀ H', Ex H H' → Q (.bl (g (t * b') (t' * b))) H') : rCmp C (spCmp C g) E0 x y H Q ∨ rCmpR C (spCmp C g') E0 x y H Q := by
  rcases h with ⟨h1, h2⟩ | ⟨⟨h1, h1'⟩, h2⟩
  · exact .inl ⟨h1.isC, h2.par, x, y, t, b, t', b', rfl, h1, h2, st, sb, st', sb', k⟩
  · refine .inr ⟨⟨t, h1⟩, h2.isC, y, x, t', b', t, b, rfl, h2, .inr ⟨h1, h1'⟩, st', sb', st, sb, fun H' e => ?_⟩
    rw [hg]
    exact k H' e
theorem eq_two {C : Addr} {x y : V} {t b t' b' : Int} {H : Hp} {Q : VK} (h : Two C x t b y t' b' H) (r : Red t b) (r' : Red t' b') (k : ∀ H', Ex H H' → Q (.bl (decide (t * b' = t' * b))) H') : rCmp C (spEq2 C) E0 x y H Q ∨ rCmpR C (spEq2 C) E0 x y H Q := by
  have fin : ∀ (c : Bool) (H' : Hp), Ex H H' → (c = true ↔ t * b' = t' * b) → Q (.bl c) H' := fun c H' e hc => by
    have q : c = decide (t * b' = t' * b) := Bool.eq_iff_iff.mpr (hc.trans (decide_eq_true_iff).symm)
    rw [q]
    exact k H' e
  rcases h with ⟨h1, h2 | ⟨h2, h2'⟩⟩ | ⟨⟨h1, h1'⟩, h2⟩
  · exact .inl ⟨h1.isC, h2.par, x, y, t, b, rfl, h1, .inl ⟨t', b', h2, fun c H' e hc => fin c H' e (hc.trans (red_iff r r'))⟩⟩
  · subst h2'
    refine .inl ⟨h1.isC, by rw [h2]; exact .int _, x, y, t, b, rfl, h1, .inr (.inl ⟨t', h2, fun c H' e hc => fin c H' e (hc.trans ?_)⟩)⟩
    rw [← red_iff r r']
    exact ⟨fun z => ⟨z.2, z.1⟩, fun z => ⟨z.2, z.1⟩⟩
  · subst h1'
    refine .inr ⟨⟨t, h1⟩, h2.isC, y, x, t', b', rfl, h2, .inr (.inl ⟨t, h1, fun c H' e hc => fin c H' e (hc.trans ?_)⟩)⟩
    rw [← red_iff r r']
    exact ⟨fun z => ⟨z.2.symm, z.1.symm⟩, fun z => ⟨z.2.symm, z.1.symm⟩⟩
theorem ne_two {C : Addr} {x y : V} {t b t' b' : Int} {H : Hp} {Q : VK} (h : Two C x t b y t' b' H) (r : Red t b) (r' : Red t' b') (k : ∀ H', Ex H H' → Q (.bl (!decide (t * b' = t' * b))) H') : rNeO C (spEq2 C) E0 x y H Q ∨ rNeOR C (spEq2 C) E0 x y H Q := by
  rcases eq_two (Q := fun v H' => ∃ c, v = .bl c ∧ Q (.bl (!c)) H') h r r' (fun H' e => ⟨_, rfl, k H' e⟩) with z | z
  · exact .inl z
  · exact .inr z
end Mo
namespace Mo
open PySem L2
open Evl (Ex)
/-- a value that is no list and no dict -/
inductive Plain (K : PySem.W.Frag) (H : Hp) : V → Prop where
  | int (i : Int) : Plain K H (.int i)
  | str (z : Str) : Plain K H (.str z)
  | ins {C a dx : Addr} {fs : List (Str × V)} (e : H a = some (.ins C dx fs)) (ty : ∀ {H' : Hp} {fs : List (Str × V)}, H' a = some (.ins C dx fs) → TyX K H' (.ref a) (.ref C))
      (l : PySem.W.kitOne K (.ref C) (.type "list") = some false) (d : PySem.W.kitOne K (.ref C) (.type "dict") = some false) : Plain K H (.ref a)
theorem Plain.ty {K : PySem.W.Frag} {H : Hp} {x : V} (h : Plain K H x) : ∃ t, TyX K H x t ∧ PySem.W.kitOne K t (.type "list") = some false ∧ PySem.W.kitOne K t (.type "dict") = some false := by
  cases h with
  | int i => exact ⟨_, .base (.int _), kit_ty (by decide +kernel), kit_ty (by decide +kernel)⟩
  | str z => exact ⟨_, .base (.str _), kit_ty (by decide +kernel), kit_ty (by decide +kernel)⟩
  | ins e ty l d => exact ⟨_, ty e, l, d⟩
theorem Plain.keep {K : PySem.W.Frag} {H H' : Hp} {x : V} (h : Plain K H x) (k : ∀ (q C dx : Addr) (fs : List (Str × V)), H q = some (.ins C dx fs) → H' q = some (.ins C dx fs)) : Plain K H' x := by
  cases h with
  | int i => exact .int i
  | str z => exact .str z
  | ins e ty l d => exact .ins (k _ _ _ _ e) ty l d
theorem Plain.ex {K : PySem.W.Frag} {H H' : Hp} {x : V} (h : Plain K H x) (e : Ex H H') : Plain K H' x := h.keep fun _ _ _ _ q => e _ _ q
/-- _kept(x) -/
def spKept (K : PySem.W.Frag) : Sp := fun vs H Q _ => ∃ x, vs = [x] ∧ Plain K H x ∧ Q x H
/-- what a store into an error leaves of the instances -/
theorem ins_st {H : Hp} {a dx C' : Addr} {u v : HO} (ha : H a = some (exo a C' none)) (hd : H dx = none) : ∀ (q C dx' : Addr) (fs : List (Str × V)), H q = some (.ins C dx' fs) → upd (upd H dx u) a v q = some (.ins C dx' fs) := fun q C d fs e => by
  rw [upd_ne (ne_of e ha (by intro z; cases z)), upd_ne (ne_of_none e hd)]
  exact e
end Mo

namespace Mo
open PySem PySem.W PySem.Calls PyProof.Rows
section
variable {prog : Program} {w : World} {A : Around} {E : Value → Shared → Prop} {s : Shared} {K : Frag} {x C f : Addr} {ox : Obj} {od : Option Obj}
/-- abs(x) by the class's own method -/
theorem abs_K {Q : Value → Shared → Prop} (X : K.In s.heap) (I : InstAt s.heap x ox C od) (hs : findIn K (.ref C) "__abs__" = some (some (.ref f))) (hf : isFn K (.ref f) = true)
    (h : wpAny (model prog w) A.in1 (call (.ref f) [.ref x]) Q E s) : wpAny (model prog w) A (call (.builtin "abs") [.ref x]) Q E s := by
  refine Calls.call_function_entry kind_abs plain_abs entry_abs (args_abs _) ?_
  unfold Builtin.«abs»
  refine wpAny_bind (m := oneArg "abs" _) (wpAny_pure ?_)
  refine wpAny_bind (m := callSpecial? (.ref x) (Str.ofString "__abs__")) (special_fn X I hs (beq_iff_eq.mp hf) (wpAny_mono h (fun v s' q => ?_) fun _ _ z => z))
  exact wpAny_pure ⟨v, rfl, q⟩
theorem truth_K {M : Model} {Q : Bool → Shared → Prop} (X : K.In s.heap) (I : InstAt s.heap x ox C od) (hs : findIn K (.ref C) "__bool__" = some (some (.ref f))) (hf : isFn K (.ref f) = true)
    (h : wpAny M A (call (.ref f) [.ref x]) (fun v s' => ∃ b, v = .bool b ∧ Q b s') E s) : wpAny M A (truthy (.ref x)) Q E s := by
  unfold truthy
  refine wpAny_bind (m := callSpecial? (.ref x) (Str.ofString "__bool__")) (special_fn X I hs (beq_iff_eq.mp hf) (wpAny_mono h (fun r s' hr => ?_) fun _ _ y => y))
  obtain ⟨b, rfl, q⟩ := hr
  exact wpAny_pure q
/-- bool(x) by the class's own method -/
theorem bool_K {Q : Value → Shared → Prop} (X : K.In s.heap) (I : InstAt s.heap x ox C od) (hs : findIn K (.ref C) "__bool__" = some (some (.ref f))) (hf : isFn K (.ref f) = true)
    (h : wpAny (model prog w) A.in1.in1 (call (.ref f) [.ref x]) (fun v s' => ∃ b, v = .bool b ∧ Q (.bool b) s') E s) : wpAny (model prog w) A (call (.type "bool") [.ref x]) Q E s := by
  refine callType_newIn (S := fun A R s => K.In s.heap ∧ InstAt s.heap x ox C od ∧ wpAny (model prog w) A.in1 (call (.ref f) [.ref x]) (fun v s' => ∃ b, v = .bool b ∧ R (.ok (.ret (.bool b))) s') (fun e s' => R (.error e) s') s) F.called_bool F.newNe_bool (F.typeCall_bool_1 _) (F.newCall_bool_1 _) (fun obj => F.args_object_init_2 obj _) F.entry_bool_new (fun A R s ⟨X, I, h⟩ => ?_) ⟨X, I, wpAny_mono h (fun v s' ⟨b, e, q⟩ => ⟨b, e, rfl, q⟩) fun _ _ z => z⟩
  have f1 := F.conv_sub_bool
  have tr : wpAny (model prog w) A.in1 (truthy (.ref x)) (fun b s' => R (.ok (.ret (.bool b))) s') (fun e s' => R (.error e) s') s := truth_K X I hs hf h
  obtain ⟨hp, g, d, tk, os⟩ := s
  unfold Builtin.«bool.__new__»
  repeat (any_goals (first | assumption | (refine wpAny_bind (m := truthy (.ref x)) (wpAny_mono tr (fun b s' q => ?_) fun _ _ z => z)) | wp_step))
  all_goals first | exact q | exact wpAny_pure q | skip
end
open L2
section
variable {X : Cx} {CX : CXT} {n k : Nat} {f C : Addr} {fd : FuncData} {ps : List Str} {sp : Sp} {E : XK}
/-- a method run wherever the frames are ours -/
theorem run_any {A : Around} (F : FnOk X.prog X.w X.K X.mg X.base CX n f fd ps sp) (hr : Room n A) (fr : A.frames = X.A.frames) (hb : Binds X.K fd ps []) (hx : Passes CX X E) {pins : List (Addr × Obj)} {s : Shared} {σ : L2.St} {H : Hp} {xs : List V} {us : List Value} {Q : VK}
    (I : Inv X pins σ H s) (r : Vals xs us) (h : sp xs H Q E) : wpAny (model X.prog X.w) A (call (.ref f) us) (EP X pins σ Q) X.xe s := by
  have e0 : Env0 X.prog X.w X.K X.mg X.base A X.stack s H := ⟨by rw [fr]; exact I.env0.frames, I.env0.mod, I.env0.bs, I.env0.bsz, I.env0.funs, I.env0.frf, I.env0.hok, I.env0.bare⟩
  have hl : us.length = ps.length := by rw [← r.length]; exact F.len _ _ _ _ h
  have bb := hb s us I.kIn (by rw [List.append_nil]; exact hl)
  rw [List.append_nil] at bb
  refine wpAny_call (codeAny_mono (F.run A X.stack s H ⟨us, []⟩ us xs _ E hr e0 bb r h) fun res s' q => ?_)
  cases res with
  | error e => exact hx pins σ H s e s' I q
  | ok fl => cases fl with
    | ret u => exact I.after q
    | next => exact q.elim
    | brk => exact q.elim
    | cont => exact q.elim
def rOne (C : Addr) (sp : Sp) (E : XK) : V → Hp → VK → Prop := fun x H Q => IsC C x H ∧ sp [x] H Q E
theorem v1r (a : Addr) : Vals [V.ref a] [Value.ref a] := .cons rfl .nil
theorem un_own (hs : PySem.W.findIn X.K (.ref C) "__neg__" = some (some (.ref f))) (hf : PySem.W.isFn X.K (.ref f) = true) (F : FnOk X.prog X.w X.K X.mg X.base CX n f fd ps sp) (hr : Room n X.A) (hb : Binds X.K fd ps []) (hx : Passes CX X E) : UnR X (unaryOp .USub) (rOne C sp E) := by
  intro pins s σ H x v Q I rx h
  obtain ⟨⟨a, dx, fs, rfl, ha⟩, q⟩ := h
  cases rx
  obtain ⟨mA, J, _⟩ := ins_get I.hok ha
  obtain ⟨od, J, _⟩ := J.look
  obtain ⟨m, hF⟩ := I.fr
  exact PySem.W.ksp_neg hF I.ok.mod.kin J hs hf (run_any F hr rfl hb hx I (v1r a) q)
def rOneA (C : Addr) (sp : Sp) (E : XK) : List V → Hp → VK → Prop := fun vs H Q => ∃ x, vs = [x] ∧ IsC C x H ∧ sp [x] H Q E
theorem abs_own (hs : PySem.W.findIn X.K (.ref C) "__abs__" = some (some (.ref f))) (hf : PySem.W.isFn X.K (.ref f) = true) (F : FnOk X.prog X.w X.K X.mg X.base CX n f fd ps sp) (hr : Room (n + 1) X.A) (hb : Binds X.K fd ps []) (hx : Passes CX X E) : CallR X (.builtin "abs") (rOneA C sp E) := by
  intro pins s σ H vs us Q I r h
  obtain ⟨x, rfl, ⟨a, dx, fs, rfl, ha⟩, q⟩ := h
  obtain ⟨u, rfl, ru⟩ := vals1 r
  cases ru
  obtain ⟨mA, J, _⟩ := ins_get I.hok ha
  obtain ⟨od, J, _⟩ := J.look
  exact abs_K I.kIn J hs hf (run_any F hr.in1 rfl hb hx I (v1r a) q)
/-- bool(x) -/
def rBoolA (C : Addr) (sp : Sp) (E : XK) : List V → Hp → VK → Prop := fun vs H Q => ∃ x, vs = [x] ∧ IsC C x H ∧ sp [x] H (fun v H' => ∃ k, v = .bl k ∧ Q (.bl k) H') E
theorem bool_own (hs : PySem.W.findIn X.K (.ref C) "__bool__" = some (some (.ref f))) (hf : PySem.W.isFn X.K (.ref f) = true) (F : FnOk X.prog X.w X.K X.mg X.base CX n f fd ps sp) (hr : Room (n + 2) X.A) (hb : Binds X.K fd ps []) (hx : Passes CX X E) : CallR X (.type "bool") (rBoolA C sp E) := by
  intro pins s σ H vs us Q I r h
  obtain ⟨x, rfl, ⟨a, dx, fs, rfl, ha⟩, q⟩ := h
  obtain ⟨u, rfl, ru⟩ := vals1 r
  cases ru
  obtain ⟨mA, J, _⟩ := ins_get I.hok ha
  obtain ⟨od, J, _⟩ := J.look
  have z := run_any (Q := fun v H' => ∃ k, v = .bl k ∧ Q (.bl k) H') F hr.in1.in1 rfl hb hx I (v1r a) q
  refine bool_K I.kIn J hs hf (wpAny_mono z (fun v s' y => ?_) fun _ _ e => e)
  obtain ⟨v', H', I', ry, k, rfl, q'⟩ := y
  cases ry
  exact ⟨k, rfl, .bl k, H', I', rfl, q'⟩
end
section
variable {X : Cx} {CX : CXT} {k : Nat} {f C : Addr} {fd : FuncData} {ps : List Str} {sp : Sp} {E : L2.St → XK} {x m : Str} {p pos apos : Pos} {e o : Expr} {es : List Expr} {ta : TE} {t : TA}
/-- o.m(e, ..) in a try -/
def tMethS (C : Addr) (m : Str) (sp : Sp) (E : L2.St → XK) (ta : TE) (t : TA) : TE := fun σ H Q => ta σ H fun x H1 => ∃ a dx fs, x = .ref a ∧ H1 a = some (.ins C dx fs) ∧ fs.lookup m = none ∧ t σ H1 fun vs H2 => sp (x :: vs) H2 Q (E σ)
theorem pe_methS {pl : Sem Bool} (he : PE X o ta) (c : Cls X.K C) (hm : Meth X.K C m f) (F : FnOk X.prog X.w X.K X.mg X.base CX k f fd ps sp) (hr : Room k X.A) (hb : Binds X.K fd ps []) (hx : ∀ σ, PassesAt CX X σ (E σ)) (ha : PA X (e :: es) t)
    (hst : starEach (e :: es) X.env = (false, eval e X.env) :: starEach es X.env := by rfl) (hpl : (backTo pos (starEach es X.env)).any (·.1) = false := by rfl)
    (ht : eval (.Call (.Attribute o m apos) (e :: es) [] pos) X.env = (do
      let ov ← eval o X.env
      standAt apos.atName
      let (f, first) ← holding [ov] (getMethod ov m pl)
      callWith pos f first (backTo pos (starEach (e :: es) X.env)) (backToKw pos (keywordEach [] X.env))) := by rfl) :
    PE X (.Call (.Attribute o m apos) (e :: es) [] pos) (tMethS C m sp E ta t) := by
  refine ⟨fun pins s σ H Q I h => PySem.W.methodCall_KW (pl := pl) (thn (he.run pins s σ H _ I h) fun u s1 ⟨x, H1, I1, rx, a, dx, fs, ex, ea, l, q⟩ => ?_) ht⟩
  subst ex
  obtain rfl : u = Value.ref a := rx
  refine getmeth_ok I1 ea c hm l ?_
  exact PySem.W.callWith_K (first := [.ref a]) (h₀ := X.base) I.ok.mod.kin hm.kp (thn (ha.run pos pins s1 σ H1 _ I1 q) fun us s2 ⟨vs, H2, I2, r, q2⟩ => ⟨I2.kIn, run_fnS F hr hb (hx σ) I2 (us := .ref a :: us) (vs := .ref a :: vs) (.cons rfl r) q2⟩) hst hpl
end
theorem io_pow : IntOp .Pow := ⟨some (.builtin "int.__pow__"), some (.builtin "int.__rpow__"), fun K => (show PySem.fastLookup "int" (PySem.dunder "pow") = _ by decide +kernel), fun K => (show PySem.fastLookup "int" (PySem.dunderR "pow") = _ by decide +kernel)⟩
theorem exm_ZD {K : PySem.W.Frag} : PySem.W.exmOne K (.type "ZeroDivisionError") (.type "ZeroDivisionError") = some true := by kernel_rfl
/-- i // j where j may be 0, in a def or a try that takes the error -/
def tFdivX (W : WX) (ta tb : TE) : TE := fun σ H Q => ta σ H fun x H1 => tb σ H1 fun y H2 => ∃ i j, x = .int i ∧ y = .int j ∧ ((CDivNW i j ∧ Q (.int (i.fdiv j)) H2) ∨ (j = 0 ∧ ∀ d, W (.type "ZeroDivisionError") d σ H2))
theorem pe_fdivX {X : Cx} {W : WX} {a b : Expr} {ta tb : TE} {pos : Pos} (hc : X.calm = true) (tk : Takes X W) (ha : PE X a ta) (hb : PE X b tb) : PE X (.BinOp a .FloorDiv b pos) (tFdivX W ta tb) := by
  refine ⟨fun pins s σ H Q I h => wpAny_BinOp (binT ha hb I h fun v u s2 x y H2 I2 rx ry q => ?_)⟩
  obtain ⟨i, j, rfl, rfl, q⟩ := q
  rcases q with ⟨hd, q⟩ | ⟨rfl, q⟩
  · exact op_fdivNW pins s2 σ H2 _ _ _ _ Q I2 rx ry ⟨i, j, rfl, rfl, hd, q⟩
  · obtain ⟨t, rfl⟩ := rx
    obtain ⟨t', rfl⟩ := ry
    exact PySem.AutoIntOps.floordiv_0 rfl ⟨I2.ok.hd hc, fun h' tk' e hx => takes_new (t' := tk') tk I2 hx q⟩
end Mo
namespace Mo
open PySem L2
open Evl (Ex)
/-- x.over(y) -/
def spOver (C : Addr) : Sp := fun vs H Q E => ∃ (x y : V) (t b t' b' : Int), vs = [x, y] ∧ Mo C t b x H ∧ Tm C t' b' y H ∧ 0 < b ∧ Sm 1900 t ∧ Sm 1900 b ∧ Sm 1900 t' ∧ Sm 1900 b' ∧ (t' = 0 → ∀ d H', Ex H H' → E (.type "ZeroDivisionError") d H') ∧
  (t' ≠ 0 → ∀ (t2 b2 : Int) (v : V) (H' : Hp), Norm (t * b') (b * t') t2 b2 → Ex H H' → Mo C t2 b2 v H' → Q v H')
def spPow (C : Addr) : Sp := fun vs H Q _ => ∃ (x : V) (t b n : Int), vs = [x, .int n] ∧ Mo C t b x H ∧ 0 < b ∧ 0 ≤ n ∧ n ≤ 100 ∧ (∀ i : Nat, i ≤ n.toNat → Sm 3900 (t ^ i) ∧ Sm 3900 (b ^ i)) ∧ Sm 1900 t ∧ Sm 1900 b ∧
  ∀ (t2 b2 : Int) (v : V) (H' : Hp), Norm (t ^ n.toNat) (b ^ n.toNat) t2 b2 → Ex H H' → Mo C t2 b2 v H' → Q v H'
def spNeg (C : Addr) : Sp := fun vs H Q _ => ∃ (x : V) (t b : Int), vs = [x] ∧ Mo C t b x H ∧ 0 < b ∧ Sm 1900 t ∧ Sm 1900 b ∧ ∀ (t2 b2 : Int) (v : V) (H' : Hp), Norm (-t) b t2 b2 → Ex H H' → Mo C t2 b2 v H' → Q v H'
def spAbs (C : Addr) : Sp := fun vs H Q _ => ∃ (x : V) (t b : Int), vs = [x] ∧ Mo C t b x H ∧ 0 < b ∧ Sm 1900 t ∧ Sm 1900 b ∧ ∀ (t2 b2 : Int) (v : V) (H' : Hp), Norm (if t < 0 then -t else t) b t2 b2 → Ex H H' → Mo C t2 b2 v H' → Q v H'
def spBool (C : Addr) : Sp := fun vs H Q _ => ∃ (x : V) (t b : Int), vs = [x] ∧ Mo C t b x H ∧ Q (.bl (t != 0)) H
def spPower : Sp := fun vs H Q _ => ∃ (t n : Int), vs = [.int t, .int n] ∧ 0 ≤ n ∧ n ≤ 100 ∧ Sm 1900 t ∧ (∀ i : Nat, i ≤ n.toNat → Sm 3900 (t ^ i)) ∧ Q (.int (t ^ n.toNat)) H
def spQuot (C : Addr) : Sp := fun vs H Q _ => ∃ (x y : V) (t b n d t' b' n' d' : Int), vs = [x, y, .int n, .int d, .int n', .int d'] ∧ Mo C t b x H ∧ Tm C t' b' y H ∧ t * d = n * b ∧ t' * d' = n' * b' ∧ 0 < b ∧ 0 < b' ∧ d' ≠ 0 ∧
  Sm 1900 t ∧ Sm 1900 b ∧ Sm 1900 t' ∧ Sm 1900 b' ∧ Sm 1900 n ∧ Sm 1900 d ∧ Sm 1900 n' ∧ Sm 1900 d' ∧ ∀ H', Ex H H' → Q (.bl true) H'
theorem sm_pow {k : Nat} {t : Int} (h : Sm k t) (n : Nat) : Sm (k * n + 1) (t ^ n) := by
  unfold Sm at *
  rw [Int.natAbs_pow, Nat.pow_succ]
  have h1 : t.natAbs ^ n ≤ (2 ^ k) ^ n := Nat.pow_le_pow_left (Nat.le_of_lt h) n
  rw [← Nat.pow_mul] at h1
  have h2 : 0 < 2 ^ (k * n) := Nat.pow_pos (by decide)
  omega
theorem sm_pows {k : Nat} {t : Int} {n : Int} (h : Sm k t) (hn : k * n.toNat ≤ 3899) : ∀ i : Nat, i ≤ n.toNat → Sm 3900 (t ^ i) := fun i hi => (sm_pow h i).mono (by have := Nat.mul_le_mul_left k hi; omega)
theorem over_eq {t b n d t' b' n' d' t2 b2 : Int} (N : Norm (t * b') (b * t') t2 b2) (h1 : t * d = n * b) (h2 : t' * d' = n' * b') (p1 : 0 < b) (p2 : 0 < b') : t2 * (d * n') = (n * d') * b2 := by
  have h := N.eq
  exact Int.eq_of_mul_eq_mul_left (Int.ne_of_gt (Int.mul_pos p1 p2)) (by grind)
theorem pow_eq {t b n d t2 b2 : Int} {m : Nat} (N : Norm (t ^ m) (b ^ m) t2 b2) (h1 : t * d = n * b) (p1 : 0 < b) : t2 * d ^ m = n ^ m * b2 := by
  have h := N.eq
  have e : t ^ m * d ^ m = n ^ m * b ^ m := by rw [← Int.mul_pow, ← Int.mul_pow, h1]
  generalize t ^ m = tm at *
  generalize d ^ m = dm at *
  generalize n ^ m = nm at *
  have p2 : 0 < b ^ m := Int.pow_pos p1
  generalize b ^ m = bm at *
  exact Int.eq_of_mul_eq_mul_left (Int.ne_of_gt p2) (by grind)
theorem neg_eq' {t b n d t2 b2 : Int} (N : Norm (-t) b t2 b2) (h1 : t * d = n * b) (p1 : 0 < b) : t2 * d = (-n) * b2 := by
  have h := N.eq
  exact Int.eq_of_mul_eq_mul_left (Int.ne_of_gt p1) (by grind)
theorem abs_eq' {t b n d t2 b2 s : Int} (N : Norm (if t < 0 then -t else t) b t2 b2) (h1 : t * d = n * b) (p1 : 0 < b) (hd : d ≠ 0) (hs : (n * d < 0 → s = -1) ∧ (¬ n * d < 0 → s = 1)) : t2 * d = (s * n) * b2 := by
  have h := N.eq
  have e : (t * (d * d)) = (n * d) * b := by grind
  have q : 0 < d * d := by
    rcases Int.lt_or_gt_of_ne hd with h | h
    · exact Int.mul_pos_of_neg_of_neg h h
    · exact Int.mul_pos h h
  by_cases ht : t < 0
  · have a : n * d < 0 := by
      have z : t * (d * d) < 0 := Int.mul_neg_of_neg_of_pos ht q
      rw [e] at z
      by_cases y : n * d < 0
      · exact y
      · have := Int.mul_nonneg (show 0 ≤ n * d by omega) (Int.le_of_lt p1)
        omega
    rw [if_pos ht] at h
    rw [hs.1 a]
    exact Int.eq_of_mul_eq_mul_left (Int.ne_of_gt p1) (by grind)
  · have a : ¬ n * d < 0 := fun y => by
      have z : (n * d) * b < 0 := Int.mul_neg_of_neg_of_pos y p1
      rw [← e] at z
      have := Int.mul_nonneg (show 0 ≤ t by omega) (Int.le_of_lt q)
      omega
    rw [if_neg ht] at h
    rw [hs.2 a]
    exact Int.eq_of_mul_eq_mul_left (Int.ne_of_gt p1) (by grind)
theorem zero_iff {t b n d : Int} (h1 : t * d = n * b) (p1 : 0 < b) (hd : d ≠ 0) : t = 0 ↔ n = 0 := by
  constructor <;> intro z
  · rw [z, Int.zero_mul] at h1
    exact (Int.mul_eq_zero.mp h1.symm).resolve_right (by omega)
  · rw [z, Int.zero_mul] at h1
    exact (Int.mul_eq_zero.mp h1).resolve_right hd
/-- a pair (x ** nn, nn) -/
def PowAt (C : Addr) (t b : Int) (x : V) (H : Hp) : Prop := ∃ (tp : Addr) (m : V) (nn t2 b2 : Int), x = .ref tp ∧ H tp = some (.tup [m, .int nn]) ∧ Mo C t2 b2 m H ∧ Norm (t ^ nn.toNat) (b ^ nn.toNat) t2 b2 ∧ 0 ≤ nn ∧ nn ≤ 60
theorem PowAt.ex {C : Addr} {t b : Int} {x : V} {H H' : Hp} (h : PowAt C t b x H) (e : Ex H H') : PowAt C t b x H' := by
  obtain ⟨tp, m, nn, t2, b2, e1, e2, e3, e4, e5, e6⟩ := h
  exact ⟨tp, m, nn, t2, b2, e1, e _ _ e2, e3.ex e, e4, e5, e6⟩
end Mo

namespace Mo
open PySem L2
open Evl (Ex)
section
variable {X : Cx} {CX : CXT} {n k : Nat} {f g C : Addr} {fd gd : FuncData} {ps qs : List Str} {sp spR : Sp} {E : XK} {a b : Expr} {ta tb : TE} {pos : Pos}
theorem run_opS (F : FnOk X.prog X.w X.K X.mg X.base CX n f fd ps sp) (hr : Room n X.A) (hb : Binds X.K fd ps []) {σ : L2.St} (hx : PassesAt CX X σ E) {pins : List (Addr × Obj)} {s : Shared} {H : Hp} {xs : List V} {us : List Value} {Q : VK}
    (I : Inv X pins σ H s) (r : Vals xs us) (h : sp xs H Q E) : wpAny (model X.prog X.w) X.A (call (.ref f) us) (PySem.W.CmpBack (EP X pins σ Q)) X.xe s :=
  wpAny_mono (run_fnS (E := fun _ => E) F hr hb hx I r h) (fun v s' z => cmpBack_of z) fun _ _ e => e
theorem own_at {op : Operator} (T : Opc X.K C) (IO : IntOp op) (O : Op2 X.K C op.info.2 f) (F : FnOk X.prog X.w X.K X.mg X.base CX n f fd ps sp) (hr : Room n X.A) (hb : Binds X.K fd ps []) {σ : L2.St} (hx : PassesAt CX X σ E)
    {pins : List (Addr × Obj)} {s : Shared} {H : Hp} {x y : V} {v u : Value} {Q : VK} (I : Inv X pins σ H s) (rx : RelV x v) (ry : RelV y u) (h : rOwn C sp E x y H Q) : wpAny (model X.prog X.w) X.A (binaryOp op v u) (EP X pins σ Q) X.xe s := by
  obtain ⟨⟨a, dx, fs, rfl, ha⟩, hy, q⟩ := h
  cases rx
  obtain ⟨mA, J, _⟩ := ins_get I.hok ha
  obtain ⟨od, J, _⟩ := J.look
  obtain ⟨m, hF⟩ := I.fr
  rcases hy with ⟨b, dy, gs, rfl, hb'⟩ | ⟨i, rfl⟩
  · cases ry
    obtain ⟨mB, J', _⟩ := ins_get I.hok hb'
    obtain ⟨od', J', _⟩ := J'.look
    exact PySem.W.binop_K hF I.ok.mod.kin J J'.type T.sf O.at_ O.fn (run_opS F hr hb hx I (v2rr _ _) q)
  · obtain ⟨t, rfl⟩ := ry
    obtain ⟨fo, ro, e1, e2⟩ := IO.fo
    obtain ⟨g, e3⟩ := O.rr
    obtain ⟨rc, e4, e5⟩ : ∃ rc, PySem.W.findIn X.K (.ref C) (PySem.dunderR op.info.2) = some rc ∧ (rc = none ∨ ∃ g : Addr, rc = some (.ref g)) := by
      rcases e3 with e3 | e3
      · exact ⟨_, e3, .inl rfl⟩
      · exact ⟨_, e3, .inr ⟨g, rfl⟩⟩
    exact PySem.W.ksp_binT (T := "int") hF I.ok.mod.kin J rfl T.sf O.at_ O.fn e4 e5 (e1 _) (e2 _) nf_int (run_opS F hr hb hx I (v2ri _ _ _) q)
theorem ownR_at {op : Operator} (T : Opc X.K C) (IO : IntOpR op) (O : OpR2 X.K C op.info.2 f) (F : FnOk X.prog X.w X.K X.mg X.base CX n f fd ps sp) (hr : Room n X.A) (hb : Binds X.K fd ps []) {σ : L2.St} (hx : PassesAt CX X σ E)
    {pins : List (Addr × Obj)} {s : Shared} {H : Hp} {x y : V} {v u : Value} {Q : VK} (I : Inv X pins σ H s) (rx : RelV x v) (ry : RelV y u) (h : rOwnR C sp E x y H Q) : wpAny (model X.prog X.w) X.A (binaryOp op v u) (EP X pins σ Q) X.xe s := by
  obtain ⟨⟨i, rfl⟩, ⟨a, dx, fs, rfl, ha⟩, q⟩ := h
  cases ry
  obtain ⟨t, rfl⟩ := rx
  obtain ⟨mA, J, _⟩ := ins_get I.hok ha
  obtain ⟨od, J, _⟩ := J.look
  obtain ⟨m, hF⟩ := I.fr
  obtain ⟨g, g1, g2⟩ := O.ll
  obtain ⟨id, B, s1, s2, s3, s4⟩ := IO.sl
  exact binR_K hF I.ok.mod.kin J rfl T.sf g1 g2 O.at_ O.fn T.nInt s1 IO.fills s2 (s3 _ _ _) s4 (run_opS F hr hb hx I (v2ri _ _ _) q)
/-- a op b in a try, by the left one's method or by the right one's -/
def tTwoS (C : Addr) (sp spR : Sp) (E : L2.St → XK) (ta tb : TE) : TE := fun σ H Q => ta σ H fun x H1 => tb σ H1 fun y H2 => rOwn C sp (E σ) x y H2 Q ∨ rOwnR C spR (E σ) x y H2 Q
theorem pe_twoS {op : Operator} {E : L2.St → XK} (ha : PE X a ta) (hb : PE X b tb) (T : Opc X.K C) (IO : IntOp op) (O : Op2 X.K C op.info.2 f) (F : FnOk X.prog X.w X.K X.mg X.base CX n f fd ps sp) (hr : Room n X.A) (bd : Binds X.K fd ps [])
    (IR : IntOpR op) (OR : OpR2 X.K C op.info.2 g) (G : FnOk X.prog X.w X.K X.mg X.base CX k g gd qs spR) (hr2 : Room k X.A) (bg : Binds X.K gd qs []) (hx : ∀ σ, PassesAt CX X σ (E σ)) : PE X (.BinOp a op b pos) (tTwoS C sp spR E ta tb) := by
  refine ⟨fun pins s σ H Q I h => wpAny_BinOp (binT ha hb I h fun v u s2 x y H2 I2 rx ry q => ?_)⟩
  rcases q with q | q
  · exact own_at T IO O F hr bd (hx σ) I2 rx ry q
  · exact ownR_at T IR OR G hr2 bg (hx σ) I2 rx ry q
end
def ZDs (E : XK) (H : Hp) : Prop := ∀ (d : Option Addr) (H' : Hp), Ex H H' → E (.type "ZeroDivisionError") d H'
def spFloor (C : Addr) : Sp := fun vs H Q E => ∃ (x y : V) (t b t' b' : Int), vs = [x, y] ∧ Mo C t b x H ∧ Tm C t' b' y H ∧ 0 < b ∧ 0 < b' ∧ Sm 1900 t ∧ Sm 1900 b ∧ Sm 1900 t' ∧ Sm 1900 b' ∧ (t' = 0 → ZDs E H) ∧
  (t' ≠ 0 → ∀ H' : Hp, Ex H H' → Q (.int ((t * b').fdiv (b * t'))) H')
def spFloorR (C : Addr) : Sp := fun vs H Q E => ∃ (x y : V) (t b t' b' : Int), vs = [x, y] ∧ Mo C t b x H ∧ Tm C t' b' y H ∧ 0 < b ∧ 0 < b' ∧ Sm 1900 t ∧ Sm 1900 b ∧ Sm 1900 t' ∧ Sm 1900 b' ∧ (t = 0 → ZDs E H) ∧
  (t ≠ 0 → ∀ H' : Hp, Ex H H' → Q (.int ((t' * b).fdiv (b' * t))) H')
/-- what the rest of t/b by t'/b' is -/
def Rest (C : Addr) (t b t' b' : Int) (H : Hp) (Q : VK) : Prop := ∀ (t2 b2 : Int) (v : V) (H' : Hp), Red t2 b2 → t2 * (b * b') = (t * b' - (t * b').fdiv (b * t') * t' * b) * b2 → Sm 4000 t2 → Sm 4000 b2 → Ex H H' → Mo C t2 b2 v H' → Q v H'
def spMod (C : Addr) : Sp := fun vs H Q E => ∃ (x y : V) (t b t' b' : Int), vs = [x, y] ∧ Mo C t b x H ∧ Tm C t' b' y H ∧ 0 < b ∧ 0 < b' ∧ Sm 400 t ∧ Sm 400 b ∧ Sm 400 t' ∧ Sm 400 b' ∧ (t' = 0 → ZDs E H) ∧ (t' ≠ 0 → Rest C t b t' b' H Q)
def spModR (C : Addr) : Sp := fun vs H Q E => ∃ (x y : V) (t b t' b' : Int), vs = [x, y] ∧ Mo C t b x H ∧ Tm C t' b' y H ∧ 0 < b ∧ 0 < b' ∧ Sm 400 t ∧ Sm 400 b ∧ Sm 400 t' ∧ Sm 400 b' ∧ (t = 0 → ZDs E H) ∧ (t ≠ 0 → Rest C t' b' t b H Q)
def spDiv (C : Addr) : Sp := fun vs H Q _ => ∃ (x y : V) (t b n d t' b' n' d' : Int), vs = [x, y, .int n, .int d, .int n', .int d'] ∧ Two C x t b y t' b' H ∧ t * d = n * b ∧ t' * d' = n' * b' ∧ 0 < b ∧ 0 < b' ∧ d ≠ 0 ∧ d' ≠ 0 ∧
  Sm 400 t ∧ Sm 400 b ∧ Sm 400 t' ∧ Sm 400 b' ∧ Sm 400 n ∧ Sm 400 d ∧ Sm 400 n' ∧ Sm 400 d' ∧ ∀ H', Ex H H' → Q (.bl true) H'
theorem Tm.opx {C : Addr} {t b : Int} {v : V} {H : Hp} (h : Tm C t b v H) : IsC C v H ∨ ∃ i, v = .int i := h.op
theorem floor_two {C : Addr} {E : XK} {x y : V} {t b t' b' : Int} {H : Hp} {Q : VK} (h : Two C x t b y t' b' H) (p1 : 0 < b) (p2 : 0 < b') (st : Sm 1900 t) (sb : Sm 1900 b) (st' : Sm 1900 t') (sb' : Sm 1900 b') (kE : t' = 0 → ZDs E H)
    (kQ : t' ≠ 0 → ∀ H' : Hp, Ex H H' → Q (.int ((t * b').fdiv (b * t'))) H') : rOwn C (spFloor C) E x y H Q ∨ rOwnR C (spFloorR C) E x y H Q := by
  rcases h with ⟨h1, h2⟩ | ⟨⟨h1, h1'⟩, h2⟩
  · exact .inl ⟨h1.isC, h2.op, x, y, t, b, t', b', rfl, h1, h2, p1, p2, st, sb, st', sb', kE, kQ⟩
  · exact .inr ⟨⟨t, h1⟩, h2.isC, y, x, t', b', t, b, rfl, h2, .inr ⟨h1, h1'⟩, p2, p1, st', sb', st, sb, kE, kQ⟩
theorem mod_two {C : Addr} {E : XK} {x y : V} {t b t' b' : Int} {H : Hp} {Q : VK} (h : Two C x t b y t' b' H) (p1 : 0 < b) (p2 : 0 < b') (st : Sm 400 t) (sb : Sm 400 b) (st' : Sm 400 t') (sb' : Sm 400 b') (kE : t' = 0 → ZDs E H)
    (kQ : t' ≠ 0 → Rest C t b t' b' H Q) : rOwn C (spMod C) E x y H Q ∨ rOwnR C (spModR C) E x y H Q := by
  rcases h with ⟨h1, h2⟩ | ⟨⟨h1, h1'⟩, h2⟩
  · exact .inl ⟨h1.isC, h2.op, x, y, t, b, t', b', rfl, h1, h2, p1, p2, st, sb, st', sb', kE, kQ⟩
  · exact .inr ⟨⟨t, h1⟩, h2.isC, y, x, t', b', t, b, rfl, h2, .inr ⟨h1, h1'⟩, p2, p1, st', sb', st, sb, kE, kQ⟩
/-! the numbers -/
theorem mod_eqM {t b t' b' q t3 b3 t2 b2 : Int} (N1 : Norm (nMul t' b' q 1) (dAll t' b' q 1) t3 b3) (N2 : Norm (nSub t b t3 b3) (dAll t b t3 b3) t2 b2) : t2 * (b * b') = (t * b' - q * t' * b) * b2 := by
  have h1 : t3 * (b' * 1) = (t' * q) * b3 := N1.eq
  have h2 : t2 * (b * b3) = (t * b3 - t3 * b) * b2 := N2.eq
  have p := N1.pos
  exact Int.eq_of_mul_eq_mul_left (Int.ne_of_gt p) (by grind)
theorem mod_eqI {t b t' q t2 b2 : Int} (N2 : Norm (nSub t b (t' * q) 1) (dAll t b (t' * q) 1) t2 b2) : t2 * (b * 1) = (t * 1 - q * t' * b) * b2 := by
  have h2 : t2 * (b * 1) = (t * 1 - (t' * q) * b) * b2 := N2.eq
  grind
theorem floor_same {t b n d t' b' n' d' : Int} (h1 : t * d = n * b) (h2 : t' * d' = n' * b') (p1 : 0 < b) (p2 : 0 < b') (hd : d ≠ 0) (hd' : d' ≠ 0) : (t * b').fdiv (b * t') = (n * d').fdiv (d * n') := by
  have e1 : (t * b') * (d * d') = (n * d') * (b * b') := by grind
  have e2 : (b * t') * (d * d') = (d * n') * (b * b') := by grind
  have pB : 0 < b * b' := Int.mul_pos p1 p2
  rcases Int.lt_or_gt_of_ne (Int.mul_ne_zero hd hd') with z | z
  · have z' : 0 < -(d * d') := by omega
    rw [← Int.mul_fdiv_mul_of_pos_left (t * b') (b * t') z', ← Int.mul_fdiv_mul_of_pos_left (n * d') (d * n') pB, Int.mul_neg, Int.mul_neg, e1, e2, Int.neg_fdiv_neg]
  · rw [← Int.mul_fdiv_mul_of_pos_left (t * b') (b * t') z, ← Int.mul_fdiv_mul_of_pos_left (n * d') (d * n') pB, e1, e2]
theorem rest_eq {t b n d t' b' n' d' q t2 b2 : Int} (h : t2 * (b * b') = (t * b' - q * t' * b) * b2) (h1 : t * d = n * b) (h2 : t' * d' = n' * b') (p1 : 0 < b) (p2 : 0 < b') : t2 * (d * d') = (n * d' - q * n' * d) * b2 := by
  have pB : 0 < b * b' := Int.mul_pos p1 p2
  exact Int.eq_of_mul_eq_mul_left (Int.ne_of_gt pB) (by grind)
theorem sm_fdiv {k : Nat} {n d : Int} (h : Sm k n) : Sm k (n.fdiv d) := h.le (Int.natAbs_fdiv_le_natAbs n d)
end Mo

namespace Mo
open PySem L2
open Evl (Ex)
section
variable {X : Cx} {CX : CXT} {k : Nat} {fI C : Addr} {fd : FuncData} {ps : List Str} {sp : Sp} {x n : Str} {p pos : Pos} {e : Expr} {es : List Expr} {ta : TA} {te : TE} {dvs : List V} {ds : List Value}
/-- C(e, ..), an error class with its own __init__, as a value -/
def tMkV (C : Addr) (sp : Sp) (dvs : List V) (ta : TA) : TE := fun σ H Q => ta σ H fun vs H1 => vs.length ≤ 1000 ∧ ∀ a, H1 a = none → sp (.ref a :: (vs ++ dvs)) (upd H1 a (exo a C none)) (fun v H2 => v = .non ∧ Q (.ref a) H2) (fun _ _ _ => False)
theorem pe_oexV (T : OexC X.K C) (iC : PySem.W.findIn X.K (.ref C) "__init__" = some (some (.ref fI))) (tI : PySem.W.typeIn X.K (.ref fI) = some (.type "function"))
    (F1 : FnOk X.prog X.w X.K X.mg X.base CX k fI fd ps sp) (hr : Room (k + 1) X.A) (hb : Binds X.K fd ps ds) (hd : Vals dvs ds) (hx : Passes CX X (fun _ _ _ => False)) (hg : Gl X x) (hm : X.mg x = some (.ref C)) (ha : PA X (e :: es) ta)
    (hdb : (x == ("__debug__" : Str)) = false := by decide) (he : starEach (e :: es) X.env = (false, eval e X.env) :: starEach es X.env := by rfl) (hpl : (backTo pos (starEach es X.env)).any (·.1) = false := by rfl) :
    PE X (.Call (.Name x p) (e :: es) [] pos) (tMkV C sp dvs ta) := by
  refine ⟨fun pins s σ H Q I h => ?_⟩
  obtain ⟨nm, q, N, bs, bm, sn, sub, ab, col, dd, k0, k1, k2, k3, k5, hC, hbm⟩ := T.cls
  refine wpAny_Call_Name_kw (ld_glob I hg hm ?_ hdb)
  refine PySem.W.callWith_K (h₀ := X.base) I.ok.mod.kin T.kC (thn (ha.run pos pins s σ H _ I h) fun us s1 ⟨vs, H1, I1, r1, hz, q1⟩ => ⟨I1.kIn, ?_⟩) he hpl
  show wpAny _ _ (call (.ref C) us) _ _ _
  obtain ⟨hp, g, dr, tk, os⟩ := s1
  have hsz : hp.objs.size ≤ hp.objs.size + 1 := Nat.le_succ _
  have hn : H1 (hp.objs.size + 1) = none := I1.hok.fresh hsz
  have hq := q1 (hp.objs.size + 1) hn
  have kk : ∀ b o, hp.get? b = some o → ((hp.push (PySem.W.kdv_tup us)).push (PySem.HandSPX.excO C hp.objs.size)).get? b = some o := fun b o e => Heap.get?_push_of_some _ (Heap.get?_push_of_some _ e)
  have hget : ((hp.push (PySem.W.kdv_tup us)).push (PySem.HandSPX.excO C hp.objs.size)).get? (hp.objs.size + 1) = some (PySem.HandSPX.excO C hp.objs.size) := by heap_get
  have I2 : Inv X pins σ (upd H1 (hp.objs.size + 1) (exo (hp.objs.size + 1) C none)) ⟨(hp.push (PySem.W.kdv_tup us)).push (PySem.HandSPX.excO C hp.objs.size), g, dr, tk, os⟩ :=
    I1.laid (t' := tk) (a := hp.objs.size + 1) (o := exo (hp.objs.size + 1) C none) (h' := (hp.push (PySem.W.kdv_tup us)).push (PySem.HandSPX.excO C hp.objs.size)) kk hsz (exo_ok hget)
  have r2 : Vals (V.ref (hp.objs.size + 1) :: (vs ++ dvs)) (Value.ref (hp.objs.size + 1) :: (us ++ ds)) := .cons rfl (r1.append hd)
  have hl : (Value.ref (hp.objs.size + 1) :: us ++ ds).length = ps.length := by
    have e := r2.length
    rw [F1.len _ _ _ _ hq] at e
    exact e.symm
  have hus : us.length ≤ sizeLine := by
    rw [← Paired.length r1, sizeLine_eq]
    omega
  refine wpAny_call (PySem.HandSPX.call_own F.excBase_ValueError (fun Y => PySem.HandSPX.refsVE_contains Y bm hbm) (I1.kIn _ _ hC) (PySem.W.looks_findIn I1.kIn iC) (fun self => PySem.W.bind_fn I1.kIn self tI) hus
    (codeAny_mono (F1.run _ X.stack _ _ ⟨Value.ref (hp.objs.size + 1) :: us, []⟩ (Value.ref (hp.objs.size + 1) :: (us ++ ds)) _ _ (fun _ _ _ => False) (hr.make C us []) (I2.env0.make C us []) (hb _ (Value.ref (hp.objs.size + 1) :: us) I2.kIn hl) r2 hq) fun r s' hq' => ?_))
  cases r with
  | error er => exact hx pins σ _ _ er s' I2 hq'
  | ok fl =>
    cases fl with
    | ret u =>
      obtain ⟨v, H', J, rv, ev, q3⟩ := I2.after hq'
      subst ev
      exact ⟨rv, V.ref (hp.objs.size + 1), H', J, rfl, q3⟩
    | next => exact False.elim hq'
    | brk => exact False.elim hq'
    | cont => exact False.elim hq'
/-- C(), an error class without its own __init__, as a value -/
theorem pe_exc0 {bmB : List Value} {B newId initId : String} (F : ExcBaseFacts B newId initId bmB) (q : PySem.W.excIn X.K C bmB newId = true) (gC : X.mg x = some (.ref C)) (kC : PySem.W.keepIn X.K (.ref C) = true) (hg : Gl X x)
    (hdb : (x == ("__debug__" : Str)) = false := by decide) :
    PE X (.Call (.Name x p) [] [] pos) (fun σ H Q => ∀ a, H a = none → Q (.ref a) (upd H a (ExO (.ref C) a))) := by
  refine ⟨fun pins s σ H Q I h => ?_⟩
  refine wpAny_Call_Name_kw (ld_glob I hg gC ?_ hdb)
  refine PySem.W.callWith_K0 (first := []) I.kIn kC ?_
  show wpAny _ _ (call (.ref C) []) _ _ _
  obtain ⟨bm, N, nm, qn, bs, hdct, sn, sub, ab, col, dd, k0, k1, k2, k3, k5, mN, hC, hN, hni, T⟩ := exc_obj I.kIn q
  obtain ⟨hp, g, dr, tk, os⟩ := s
  refine wpAny_call_exc_subT F T hC hN hni (fun h' a hm => ?_) (by show 0 ≤ sizeLine; omega)
  have hn : H a = none := I.hok.gone hm.new
  obtain ⟨t, ht, _, _⟩ := hm.there
  exact ⟨.ref a, upd H a (ExO (.ref C) a), I.laidN hm.keeps hm.new hn (exO_ok ht ⟨rfl, rfl⟩ rfl rfl rfl (show 4 < 6 by decide)), rfl, h a hn⟩
/-- e.f of such a value -/
def tExo (K : PySem.W.Frag) (f : Str) (te : TE) : TE := fun σ H Q => te σ H fun x H1 => ∃ (a C d : Addr) (fs : List (Str × V)) (v : V), x = .ref a ∧ XfC K C ∧ PySem.W.findIn K (.ref C) f = some none ∧ H1 a = some (exo a C (some d)) ∧ H1 d = some (exd d fs) ∧ fs.lookup f = some v ∧ Q v H1
theorem pe_exo {e : Expr} {te : TE} (he : PE X e te) (hb : attributeBase e n X.env (eval e X.env) = eval e X.env := by rfl) : PE X (.Attribute e n pos) (tExo X.K n te) := by
  refine ⟨fun pins s σ H Q I h => ?_⟩
  refine attr_of hb (thn (he.run pins s σ H _ I h) fun u s1 hh => ?_)
  obtain ⟨x, H1, I1, rx, a, C, d, fs, v, ex, T, hno, ea, ed, l, q⟩ := hh
  subst ex
  obtain rfl : u = Value.ref a := rx
  obtain ⟨t0, ha⟩ := exo_at I1.hok ea
  obtain ⟨mA, hns, hr⟩ := exd_at I1.hok ed
  obtain ⟨od, ho, hl⟩ := lookIn_ns hns
  obtain ⟨u, hu, ru⟩ := RelO.some_of (v := v) (o := mA n) (by rw [← l]; exact hr n)
  have J : PySem.W.InstAt s1.heap a _ C (some od) := ⟨ha, rfl, rfl, ho⟩
  exact HandSPX.exc_get I1.kIn J T.ga T.gg T.exC (PySem.W.findObj_own T.hdC hno rfl (by rw [hl, hu])) (handed_of ru) ⟨v, H1, I1.tok _, ru, q⟩
end
/-- an error object of the class at C -/
def IsX (C a : Addr) (H : Hp) : Prop := (∃ d fs, H a = some (exo a C (some d)) ∧ H d = some (exd d fs)) ∨ H a = some (ExO (.ref C) a)
theorem IsX.ex {C a : Addr} {H H' : Hp} (h : IsX C a H) (e : Ex H H') : IsX C a H' := by
  rcases h with ⟨d, fs, h1, h2⟩ | h
  · exact .inl ⟨d, fs, e _ _ h1, e _ _ h2⟩
  · exact .inr (e _ _ h)
/-- what isinstance asks of its class -/
structure XiC (K : PySem.W.Frag) (C : Addr) : Prop where
  cl : PySem.W.isClsIn K C = true
  ga : PySem.W.findIn K (.ref C) "__getattribute__" = some (some (.builtin "BaseException.__getattribute__"))
  gg : PySem.W.findIn K (.ref C) "__getattr__" = some none
  ex : PySem.W.subIn K (.ref C) (.type "BaseException") = some true
  cc : PySem.W.findIn K (.ref C) "__class__" = some (some (.builtin "object.__class__"))
  cg : PySem.W.specialIn K (.builtin "object.__class__") "__get__" = some (some (.builtin "getset_descriptor.__get__"))
  ct : PySem.W.takesIn K (.builtin "object.__class__") = some true
  mo : PySem.W.mroIn K C (.type "object") = some true
def rIsiE (K : PySem.W.Frag) : List V → Hp → VK → Prop := fun xs H Q => ∃ (a C : Addr) (c : V) (u : Value) (b : Bool), xs = [.ref a, c] ∧ ClsV c u ∧ XiC K C ∧ IsX C a H ∧ PySem.W.kitOne K (.ref C) u = some b ∧ Q (.bl b) H
theorem call_isiE {X : Cx} : CallR X (.builtin "isinstance") (rIsiE X.K) := by
  intro pins s σ H xs us Q I r h
  obtain ⟨a, C, c, u, b, rfl, k, T, hx, e, q⟩ := h
  obtain ⟨u1, u2, rfl, r1, r2⟩ := vals2 r
  have e2 := k.eq r2
  subst e2
  cases (show u1 = Value.ref a from r1)
  have J : ∃ ox od, PySem.W.InstAt s.heap a ox C od := by
    rcases hx with ⟨d, fs, ea, ed⟩ | ea
    · obtain ⟨t0, ha⟩ := exo_at I.hok ea
      obtain ⟨mA, hns, hr⟩ := exd_at I.hok ed
      obtain ⟨od, ho, hl⟩ := lookIn_ns hns
      exact ⟨_, some od, ha, rfl, rfl, ho⟩
    · obtain ⟨⟨oe, vs, ho, hz, hd, _⟩, _, _⟩ := I.hok a _ ea
      exact ⟨oe, none, ho, hz.1, by unfold PySem.W.notCls; rw [hd] <;> rfl, by rw [hz.2]; trivial⟩
  obtain ⟨ox, od, J⟩ := J
  exact PySem.W.kia_one (PySem.W.kitx_exc T.cl T.ga T.gg T.ex T.cc T.cg T.ct T.mo) I.kIn J e (fun z => nomatch z) fun tk => ⟨.bl b, H, I.tok tk, rfl, q⟩
end Mo

namespace Mo
open PySem L2
open Evl (Ex)
/-- an error class as the top has left it -/
structure EC (K : PySem.W.Frag) (CA : Addr) (nm : Str) (C : Addr) : Prop where
  x : ∃ q N bs sn sub ab col dd k0 k1 k2 k3 k5, K.lookup C = some (excClassObj nm q C N bs [.ref CA, .type "ValueError", .type "Exception", .type "BaseException", .type "object"] true sn sub ab col dd k0 k1 k2 k3 k5 "ValueError.__new__")
  sa : PySem.W.findIn K (.ref C) "__setattr__" = some (some (.builtin "object.__setattr__"))
  ga : PySem.W.findIn K (.ref C) "__getattribute__" = some (some (.builtin "BaseException.__getattribute__"))
  gg : PySem.W.findIn K (.ref C) "__getattr__" = some none
  cc : PySem.W.findIn K (.ref C) "__class__" = some (some (.builtin "object.__class__"))
  kp : PySem.W.keepIn K (.ref C) = true
section
variable {K : PySem.W.Frag} {CA C : Addr} {nm : Str}
theorem clsIn_of {a : Value} {b : Option Addr} {cd : ClassData} {sl : Array (Option Value)} (e : K.lookup C = some ⟨a, b, .cls cd, sl⟩) : PySem.W.clsIn K C = some cd := by
  unfold PySem.W.clsIn
  rw [e]
theorem EC.cls (h : EC K CA nm C) : ∃ cd, PySem.W.clsIn K C = some cd ∧ cd.mro = [.ref C, .ref CA, .type "ValueError", .type "Exception", .type "BaseException", .type "object"] ∧ cd.name = nm ∧ cd.hasDict = true := by
  obtain ⟨q, N, bs, sn, sub, ab, col, dd, k0, k1, k2, k3, k5, e⟩ := h.x
  exact ⟨_, clsIn_of e, rfl, rfl, rfl⟩
theorem EC.sub (h : EC K CA nm C) (v : Value) : PySem.W.subIn K (.ref C) v = some (([.ref C, .ref CA, .type "ValueError", .type "Exception", .type "BaseException", .type "object"] : List Value).contains v) := by
  obtain ⟨cd, e, m, _⟩ := h.cls
  show PySem.W.mroIn K C v = _
  unfold PySem.W.mroIn
  rw [e]
  show (if cd.mro.isEmpty = true then none else some (cd.mro.contains v)) = _
  rw [m]
  rfl
theorem EC.ty (h : EC K CA nm C) : PySem.W.typeIn K (.ref C) = some (.type "type") := by
  obtain ⟨q, N, bs, sn, sub, ab, col, dd, k0, k1, k2, k3, k5, e⟩ := h.x
  show (K.lookup C).map _ = _
  rw [e]
  rfl
theorem EC.ic (h : EC K CA nm C) : PySem.W.isClsIn K C = true := by
  obtain ⟨cd, e, _⟩ := h.cls
  show (PySem.W.clsIn K C).isSome = true
  rw [e]
  rfl
theorem EC.hd (h : EC K CA nm C) : PySem.W.hasDictIn K C = true := by
  obtain ⟨cd, e, _, _, d⟩ := h.cls
  show (PySem.W.clsIn K C).any _ = true
  rw [e]
  exact d
theorem cont_ty {C CA : Addr} {T : String} (h : (["ValueError", "Exception", "BaseException", "object"] : List String).contains T = true) : ([.ref C, .ref CA, .type "ValueError", .type "Exception", .type "BaseException", .type "object"] : List Value).contains (.type T) = true := by
  have h' : T ∈ (["ValueError", "Exception", "BaseException", "object"] : List String) := List.contains_iff_mem.mp h
  refine List.contains_iff_mem.mpr ?_
  simp only [List.mem_cons, List.not_mem_nil, or_false] at h'
  rcases h' with rfl | rfl | rfl | rfl <;> simp
theorem EC.subT (h : EC K CA nm C) {T : String} (hT : (["ValueError", "Exception", "BaseException", "object"] : List String).contains T = true) : PySem.W.subIn K (.ref C) (.type T) = some true := by
  rw [h.sub, cont_ty hT]
theorem EC.oex (h : EC K CA nm C) : OexC K C := by
  obtain ⟨q, N, bs, sn, sub, ab, col, dd, k0, k1, k2, k3, k5, e⟩ := h.x
  exact ⟨⟨_, _, _, _, _, _, _, _, _, _, _, _, _, _, _, e, rfl⟩, h.sa, h.subT (by decide), h.ty, h.kp⟩
theorem EC.xf (h : EC K CA nm C) : XfC K C := ⟨h.ga, h.gg, h.subT (by decide), h.hd⟩
theorem EC.xi (h : EC K CA nm C) (cg : PySem.W.specialIn K (.builtin "object.__class__") "__get__" = some (some (.builtin "getset_descriptor.__get__"))) (ct : PySem.W.takesIn K (.builtin "object.__class__") = some true) : XiC K C :=
  ⟨h.ic, h.ga, h.gg, h.subT (by decide), h.cc, cg, ct, h.subT (T := "object") (by decide)⟩
theorem EC.kitT (h : EC K CA nm C) {T : String} (hT : (["ValueError", "Exception", "BaseException", "object"] : List String).contains T = true) (hm : PySem.W.kitMeta T = true := by decide +kernel) : PySem.W.kitOne K (.ref C) (.type T) = some true := kit_ct (h.subT hT) hm
theorem kit_rr {C D : Addr} {b : Bool} (hne : C ≠ D) (hc : PySem.W.isClsIn K D = true) (ht : PySem.W.typeIn K (.ref D) = some (.type "type")) (h : PySem.W.subIn K (.ref C) (.ref D) = some b) : PySem.W.kitOne K (.ref C) (.ref D) = some b := by
  unfold PySem.W.kitOne
  rw [if_neg (by intro z; exact hne (Value.ref.inj (beq_iff_eq.mp z)))]
  have h2 : (PySem.W.clsIn K D).isSome = true := hc
  show (if ((PySem.W.clsIn K D).isSome && PySem.W.typeIn K (.ref D) == some (.type "type")) = true then PySem.W.subIn K (.ref C) (.ref D) else none) = some b
  rw [if_pos (by rw [h2, ht]; rfl), h]
theorem EC.kitA (h : EC K CA nm C) (ic : PySem.W.isClsIn K CA = true) (ty : PySem.W.typeIn K (.ref CA) = some (.type "type")) : PySem.W.kitOne K (.ref C) (.ref CA) = some true := by
  by_cases e : C = CA
  · subst e
    exact kit_self
  · refine kit_rr e ic ty ?_
    rw [h.sub]
    congr 1
    exact List.contains_iff_mem.mpr (by simp)
theorem EC.kitD {D : Addr} {nm' : Str} (h : EC K CA nm C) (h' : EC K CA nm' D) (ne : C ≠ D) (na : D ≠ CA) : PySem.W.kitOne K (.ref C) (.ref D) = some false := by
  refine kit_rr ne h'.ic h'.ty ?_
  rw [h.sub]
  congr 1
  refine Bool.eq_false_iff.mpr fun z => ?_
  have z := List.contains_iff_mem.mp z
  simp only [List.mem_cons, List.not_mem_nil, or_false] at z
  rcases z with z | z | z | z | z | z
  · exact ne (Value.ref.inj z).symm
  · exact na (Value.ref.inj z)
  all_goals cases z
theorem EC.ne {D : Addr} {nm' : Str} (h : EC K CA nm C) (h' : EC K CA nm' D) (n : nm ≠ nm') : C ≠ D := fun e => by
  subst e
  obtain ⟨cd, e1, _, e2, _⟩ := h.cls
  obtain ⟨cd', e1', _, e2', _⟩ := h'.cls
  rw [e1] at e1'
  cases e1'
  exact n (e2.symm.trans e2')
theorem EC.na (h : EC K CA nm C) {cd : ClassData} (e : PySem.W.clsIn K CA = some cd) (n : cd.name ≠ nm) : C ≠ CA := fun z => by
  subst z
  obtain ⟨cd', e1, _, e2, _⟩ := h.cls
  rw [e1] at e
  cases e
  exact n e2
end
/-- classes with their names -/
inductive ECs (K : PySem.W.Frag) (CA : Addr) : List Str → List Addr → Prop where
  | nil : ECs K CA [] []
  | cons {nm : Str} {C : Addr} {ns : List Str} {Cs : List Addr} (h : EC K CA nm C) (t : ECs K CA ns Cs) : ECs K CA (nm :: ns) (C :: Cs)
theorem ECs.get {K : PySem.W.Frag} {CA : Addr} : ∀ {ns : List Str} {Cs : List Addr} {i : Nat} {C : Addr}, ECs K CA ns Cs → Cs[i]? = some C → ∃ nm, ns[i]? = some nm ∧ EC K CA nm C
  | _, _, 0, _, .cons h t, e => by cases e; exact ⟨_, rfl, h⟩
  | _, _, i + 1, _, .cons h t, e => t.get e
/-- which class an error of the j-th class is one of -/
theorem ECs.kit {K : PySem.W.Frag} {CA : Addr} {ns : List Str} {Cs : List Addr} (h : ECs K CA ns Cs) (nd : ns.Nodup) {cd : ClassData} (e : PySem.W.clsIn K CA = some cd) (na : cd.name ∉ ns) {i j : Nat} {C D : Addr} (h1 : Cs[j]? = some C) (h2 : Cs[i]? = some D) :
    PySem.W.kitOne K (.ref C) (.ref D) = some (decide (i = j)) := by
  obtain ⟨n1, g1, E1⟩ := h.get h1
  obtain ⟨n2, g2, E2⟩ := h.get h2
  by_cases hij : i = j
  · subst hij
    rw [h1] at h2
    cases h2
    rw [decide_eq_true rfl]
    exact kit_self
  · rw [decide_eq_false hij]
    refine E1.kitD E2 (E1.ne E2 fun q => hij ?_) (E2.na e fun q => na (q ▸ List.mem_of_getElem? g2))
    subst q
    obtain ⟨l1, _⟩ := List.getElem?_eq_some_iff.mp g1
    exact ((List.getElem?_inj l1 nd).mp (g1.trans g2.symm)).symm
/-! promises of the __init__s -/
def Kp (a : Addr) (H H' : Hp) : Prop := ∀ q o, H q = some o → q ≠ a → H' q = some o
theorem kp_ex {a : Addr} {o : HO} {H H' : Hp} (n : H a = none) (k : Kp a (upd H a o) H') : Ex H H' := fun q u e => by
  have hq : q ≠ a := ne_of_none e n
  exact k q u (by rw [upd_ne hq]; exact e) hq
def spE1 (C : Addr) (f : Str) : Sp := fun vs H Q _ => ∃ (a : Addr) (x : Int), vs = [.ref a, .int x] ∧ H a = some (exo a C none) ∧ ∀ dx H', Kp a H H' → H' a = some (exo a C (some dx)) → H' dx = some (exd dx [(f, .int x)]) → Q .non H'
def spE1i (C : Addr) (f : Str) : Sp := fun vs H Q _ => ∃ (a : Addr) (x : Int), vs = [.ref a, .int x] ∧ H a = some (exo a C none) ∧ ∀ dx H', Kp a H H' → H' a = some (exo a C (some dx)) → H' dx = some (exd dx [(f, .int x)]) → Q .non H'
theorem new_at {H : Hp} {l : Addr} {o : HO} (_ : Ex H (upd H l o)) : upd H l o l = some o := upd_same
def spE2 (C : Addr) (f g : Str) : Sp := fun vs H Q _ => ∃ (a : Addr) (x y : Int), vs = [.ref a, .int x, .int y] ∧ H a = some (exo a C none) ∧ ∀ dx H', Kp a H H' → H' a = some (exo a C (some dx)) → H' dx = some (exd dx [(g, .int y), (f, .int x)]) → Q .non H'
def spE3 (C : Addr) (f g h : Str) : Sp := fun vs H Q _ => ∃ (a : Addr) (x y z : Int), vs = [.ref a, .int x, .int y, .int z] ∧ H a = some (exo a C none) ∧ ∀ dx H', Kp a H H' → H' a = some (exo a C (some dx)) → H' dx = some (exd dx [(h, .int z), (g, .int y), (f, .int x)]) → Q .non H'
theorem kp1 {a dx : Addr} {H : Hp} {u w : HO} (n : H dx = none) : Kp a H (upd (upd H dx u) a w) := fun q o e hq => by
  have h2 : q ≠ dx := ne_of_none e n
  rw [upd_ne hq, upd_ne h2]
  exact e
theorem kp2 {a dx : Addr} {H H' : Hp} {u : HO} (n : H dx = none) (k : Kp a H H') : Kp a H (upd H' dx u) := fun q o e hq => by
  rw [upd_ne (ne_of_none e n)]
  exact k q o e hq
theorem lk1 {f : Str} {x : V} : ([(f, x)] : List (Str × V)).lookup f = some x := by rw [lookup_put, if_pos rfl]
theorem lk2 {f g : Str} {x y : V} (h : ¬ f = g) : ([(g, y), (f, x)] : List (Str × V)).lookup f = some x := by rw [lookup_put, if_neg h, lk1]
theorem lkh {f : Str} {x : V} {l : List (Str × V)} : ((f, x) :: l).lookup f = some x := by rw [lookup_put, if_pos rfl]
theorem lkt {f g : Str} {x y : V} {l : List (Str × V)} (h : ¬ f = g) (e : l.lookup f = some x) : ((g, y) :: l).lookup f = some x := by rw [lookup_put, if_neg h, e]
/-! rows -/
def RowAt (C : Addr) (x : V) (H : Hp) : Prop := ∃ (tp e l1 l2 : Addr) (zs : List Int), x = .ref tp ∧ H tp = some (.tup [.ref e, .ref l1, .ref l2]) ∧ IsX C e H ∧ H l1 = some (.lst (zs.map V.int)) ∧ H l2 = some (.lst (zs.map V.int)) ∧ zs.length ≤ 3
theorem RowAt.ex {C : Addr} {x : V} {H H' : Hp} (h : RowAt C x H) (e : Ex H H') : RowAt C x H' := by
  obtain ⟨tp, a, l1, l2, zs, h0, h1, h2, h3, h4, h5⟩ := h
  exact ⟨tp, a, l1, l2, zs, h0, e _ _ h1, h2.ex e, e _ _ h3, e _ _ h4, h5⟩
theorem rowAt_mk {C tp e l1 l2 : Addr} {H : Hp} (zs : List Int) (h1 : H tp = some (.tup [.ref e, .ref l1, .ref l2])) (h2 : IsX C e H) (h3 : H l1 = some (.lst (zs.map V.int))) (h4 : H l2 = some (.lst (zs.map V.int))) (h5 : zs.length ≤ 3) : RowAt C (.ref tp) H := ⟨tp, e, l1, l2, zs, rfl, h1, h2, h3, h4, h5⟩
inductive Rows : List Addr → List V → Hp → Prop where
  | nil {H : Hp} : Rows [] [] H
  | cons {C : Addr} {x : V} {Cs : List Addr} {xs : List V} {H : Hp} (h : RowAt C x H) (t : Rows Cs xs H) : Rows (C :: Cs) (x :: xs) H
theorem Rows.ex : ∀ {Cs : List Addr} {xs : List V} {H H' : Hp}, Rows Cs xs H → Ex H H' → Rows Cs xs H'
  | _, _, _, _, .nil, _ => .nil
  | _, _, _, _, .cons h t, e => .cons (h.ex e) (t.ex e)
theorem Rows.len : ∀ {Cs : List Addr} {xs : List V} {H : Hp}, Rows Cs xs H → xs.length = Cs.length
  | _, _, _, .nil => rfl
  | _, _, _, .cons h t => by rw [List.length_cons, List.length_cons, t.len]
theorem Rows.app : ∀ {Cs Ds : List Addr} {xs ys : List V} {H : Hp}, Rows Cs xs H → Rows Ds ys H → Rows (Cs ++ Ds) (xs ++ ys) H
  | _, _, _, _, _, .nil, r => r
  | _, _, _, _, _, .cons h t, r => .cons h (t.app r)
theorem Rows.get : ∀ {Cs : List Addr} {xs : List V} {H : Hp} {i : Nat}, Rows Cs xs H → i < xs.length → ∃ C x, Cs[i]? = some C ∧ xs[i]? = some x ∧ RowAt C x H
  | _, _, _, 0, .cons h t, _ => ⟨_, _, rfl, rfl, h⟩
  | _, _, _, i + 1, .cons h t, l => t.get (i := i) (by simpa using l)
  | _, _, _, _, .nil, l => by cases l
def spPairs (Cs : List Addr) : Sp := fun vs H Q _ => ∃ a b c : Int, vs = [.int a, .int b, .int c] ∧ ∀ p xs H', Ex H H' → H' p = some (.lst xs) → Rows Cs xs H' → Q (.ref p) H'
def spSingles (Cs : List Addr) : Sp := fun vs H Q _ => ∃ a : Int, vs = [.int a] ∧ ∀ p xs H', Ex H H' → H' p = some (.lst xs) → Rows Cs xs H' → Q (.ref p) H'
def spKinds (K : PySem.W.Frag) (Cs : List Addr) : Sp := fun vs H Q _ => ∃ (e C : Addr) (b : Nat → Bool), vs = [.ref e] ∧ XiC K C ∧ IsX C e H ∧ (∀ i D, Cs[i]? = some D → PySem.W.kitOne K (.ref C) (.ref D) = some (b i)) ∧
  ∀ p H', Ex H H' → H' p = some (.lst ((List.range 22).map fun i => V.bl (b i))) → Q (.ref p) H'
/-! equal lists of ints are not unequal -/
def dInts (ns : List Int) : PyData := .list (ns.map .int)
theorem dp_all {K : PySem.W.Frag} {H : Hp} : ∀ ns : List Int, DpAll K H (ns.map V.int) (ns.map PyData.int)
  | [] => .nil
  | n :: ns => .cons (.int n) (dp_all ns)
theorem dp_ints {K : PySem.W.Frag} {H : Hp} {a : Addr} {ns : List Int} (h : H a = some (.lst (ns.map V.int))) : Dp K H (.ref a) (dInts ns) := .lst (SqL.of h) (dp_all ns)
theorem shaped_ints : ∀ {ns : List Int}, ns.length ≤ 3 → SeqAt.shaped (dInts ns) = true
  | [], _ => rfl
  | [_], _ => rfl
  | [_, _], _ => rfl
  | [_, _, _], _ => rfl
  | _ :: _ :: _ :: _ :: _, h => by simp at h
theorem eqv_all : ∀ ns : List Int, PyData.eqvAll (ns.map PyData.int) (ns.map PyData.int) = true
  | [] => by simp [PyData.eqvAll]
  | n :: ns => by
    rw [List.map_cons, PyData.eqvAll, eqv_all ns, PyData.eqv]
    simp
theorem eqv_ints (ns : List Int) : PyData.eqv (dInts ns) (dInts ns) = true := by
  unfold dInts
  rw [PyData.eqv, eqv_all]
end Mo

namespace Mo
open PySem PyProof.Rows L2
open Evl (Ex)
section
variable {X : Cx} {a b c d : Expr} {ta tb tc td : TE} {pos : Pos}
/-- a op1 b op2 c op3 d, as a test -/
def tChain3 (r r' r'' : R2) (ta tb tc td : TE) : TT := fun σ H Q => ta σ H fun x H1 => tb σ H1 fun y H2 => r x y H2 fun z H3 => ∃ k, z = .bl k ∧
  (if k = true then tc σ H3 fun w' H4 => r' y w' H4 fun z H5 => ∃ k, z = .bl k ∧ (if k = true then td σ H5 fun v' H6 => r'' w' v' H6 fun z H7 => ∃ k, z = .bl k ∧ Q k H7 else Q false H5) else Q false H3)
theorem pt_chain3 {o1 o2 o3 : CmpOp} {r r' r'' : R2} (ho : OpR X (compareOp o1) r) (ho' : OpR X (compareOp o2) r') (ho'' : OpR X (compareOp o3) r'') (ha : PE X a ta) (hb : PE X b tb) (hc : PE X c tc) (hd : PE X d td)
    (hm : lastMarks [o1, o2, o3] [b, c, d] = false := by with_unfolding_all rfl) : PT X (.Compare a [o1, o2, o3] [b, c, d] pos) (tChain3 r r' r'' ta tb tc td) := by
  refine ⟨fun pins s σ H Q I h => ?_⟩
  refine isTrue_chain (thn (ha.run pins s σ H _ I h) fun v s1 ⟨x, H1, I1, r1, q1⟩ => test_link (thn (hb.run pins s1 σ H1 _ I1 q1) fun u s2 ⟨y, H2, I2, r2, q2⟩ =>
    thn (ho pins s2 σ H2 x y v u _ I2 r1 r2 q2) fun d s3 ⟨z, H3, I3, r3, k, e, q3⟩ => ?_)) hm
  subst e
  cases r3
  refine wpAny_truthy_bool ?_
  cases k with
  | false => exact ite_ff ⟨H3, I3, q3⟩
  | true =>
    refine ite_tt (test_link (thn (hc.run pins s3 σ H3 _ I3 q3) fun w' s4 ⟨z', H4, I4, r4, q4⟩ => thn (ho' pins s4 σ H4 y z' u w' _ I4 r2 r4 q4) fun d' s5 ⟨z2, H5, I5, r5, k2, e2, q5⟩ => ?_))
    subst e2
    cases r5
    refine wpAny_truthy_bool ?_
    cases k2 with
    | false => exact ite_ff ⟨H5, I5, q5⟩
    | true =>
      refine ite_tt (test_last (thn (hd.run pins s5 σ H5 _ I5 q5) fun v' s6 ⟨z3, H6, I6, r6, q6⟩ => thn (ho'' pins s6 σ H6 z' z3 w' v' _ I6 r4 r6 q6) fun d' s7 ⟨z4, H7, I7, r7, k3, e3, q7⟩ => ?_))
      subst e3
      cases r7
      exact wpAny_truthy_bool ⟨H7, I7, q7⟩
end
/-! ### times of all kinds compared -/
def rIC (g : Int → Int → Bool) : R2 := rI0 fun i j => .bl (g i j)
theorem cmp_tm {C : Addr} {x y : V} {t b t' b' : Int} {H : Hp} {g g' : Int → Int → Bool} {Q : VK} (hx : Tm C t b x H) (hy : Tm C t' b' y H) (st : Sm 1900 t) (sb : Sm 1900 b) (st' : Sm 1900 t') (sb' : Sm 1900 b') (hg : ∀ i j, g' i j = g j i)
    (k : ∀ H', Ex H H' → Q (.bl (g (t * b') (t' * b))) H') : (rCmp C (spCmp C g) E0 x y H Q ∨ rCmpR C (spCmp C g') E0 x y H Q) ∨ rIC g x y H Q := by
  rcases hx with hx | ⟨rfl, rfl⟩
  · exact .inl (cmp_two (.inl ⟨hx, hy⟩) st sb st' sb' hg k)
  · rcases hy with hy | ⟨rfl, rfl⟩
    · exact .inl (cmp_two (.inr ⟨⟨rfl, rfl⟩, hy⟩) st sb st' sb' hg k)
    · refine .inr ⟨_, _, rfl, rfl, ?_⟩
      have z := k H (Ex.refl _)
      rw [Int.mul_one, Int.mul_one] at z
      exact z
/-! ### a mark as an object -/
def kF (n : Int) (b e s t : V) : List (Str × V) := putF "stop" t (putF "start" s (putF "end" e (putF "begin" b (putF "tone" (.int n) []))))
theorem kF_look (n : Int) (b e s t : V) (f : Str) : (kF n b e s t).lookup f = if f = "stop" then some t else if f = "start" then some s else if f = "end" then some e else if f = "begin" then some b else if f = "tone" then some (.int n) else none := by
  unfold kF
  rw [lookup_putF, lookup_putF, lookup_putF, lookup_putF, lookup_putF]
  rfl
structure KT where
  n : Int
  b : Int × Int
  e : Int × Int
  s : Int × Int
  t : Int × Int
/-- a Mark object with the five values -/
def MkA (CM C : Addr) (m : KT) (v : V) (H : Hp) : Prop := ∃ a dx b e s t, v = .ref a ∧ H a = some (.ins CM dx (kF m.n b e s t)) ∧ Mo C m.b.1 m.b.2 b H ∧ Mo C m.e.1 m.e.2 e H ∧ Mo C m.s.1 m.s.2 s H ∧ Mo C m.t.1 m.t.2 t H
theorem MkA.ex {CM C : Addr} {m : KT} {v : V} {H H' : Hp} (h : MkA CM C m v H) (x : Ex H H') : MkA CM C m v H' := by
  obtain ⟨a, dx, b, e, s, t, h0, h1, h2, h3, h4, h5⟩ := h
  exact ⟨a, dx, b, e, s, t, h0, x _ _ h1, h2.ex x, h3.ex x, h4.ex x, h5.ex x⟩
def FLt (x y : Int × Int) : Prop := x.1 * y.2 < y.1 * x.2
def FLe (x y : Int × Int) : Prop := x.1 * y.2 ≤ y.1 * x.2
def KT.ok (m : KT) : Prop := FLe m.b m.s ∧ FLt m.s m.t ∧ FLe m.t m.e
def FT (C : Addr) (x : Int × Int) (v : V) (H : Hp) : Prop := Tm C x.1 x.2 v H ∧ 0 < x.2 ∧ Sm 1900 x.1 ∧ Sm 1900 x.2
theorem FT.ex {C : Addr} {x : Int × Int} {v : V} {H H' : Hp} (h : FT C x v H) (e : Ex H H') : FT C x v H' := ⟨h.1.ex e, h.2⟩
def KpP (p : Addr) (H H' : Hp) : Prop := ∀ q o, H q = some o → q ≠ p → H' q = some o
theorem KpP.refl {p : Addr} {H : Hp} : KpP p H H := fun _ _ e _ => e
theorem KpP.upd {p : Addr} {H H' : Hp} {o : HO} (k : KpP p H H') : KpP p H (upd H' p o) := fun q u e hq => by
  rw [upd_ne hq]
  exact k q u e hq
theorem KpP.ex {p : Addr} {H H' H'' : Hp} (k : KpP p H H') (x : Ex H' H'') : KpP p H H'' := fun q u e hq => x _ _ (k q u e hq)
theorem Mo.kp {C p CM dx : Addr} {t b : Int} {v : V} {H H' : Hp} {fs : List (Str × V)} (h : Mo C t b v H) (hp : H p = some (.ins CM dx fs)) (hn : fs.lookup ("top" : Str) = none) (k : KpP p H H') : Mo C t b v H' := by
  obtain ⟨a, d, r, e⟩ := h
  refine ⟨a, d, r, k a _ e fun z => ?_⟩
  subst z
  rw [e] at hp
  cases hp
  rw [mf_top] at hn
  cases hn
theorem Tm.kp {C p CM dx : Addr} {t b : Int} {v : V} {H H' : Hp} {fs : List (Str × V)} (h : Tm C t b v H) (hp : H p = some (.ins CM dx fs)) (hn : fs.lookup ("top" : Str) = none) (k : KpP p H H') : Tm C t b v H' := h.elim (fun h => .inl (h.kp hp hn k)) .inr
/-- Mark(..) by its __init__ -/
def spMark (CM C CN : Addr) : Sp := fun vs H Q E => ∃ (p dx : Addr) (m : KT) (xb xe xs xt : V), vs = [.ref p, .int m.n, xb, xe, xs, xt] ∧ H p = some (.ins CM dx []) ∧ FT C m.b xb H ∧ FT C m.e xe H ∧ ((xs = .non ∧ m.s = m.b) ∨ FT C m.s xs H) ∧ ((xt = .non ∧ m.t = m.e) ∨ FT C m.t xt H) ∧
  (¬ m.ok → ∀ (dd : Addr) (fs : List (Str × V)) (H' : Hp), fs.lookup ("tone" : Str) = some (.int m.n) → fs.lookup ("begin" : Str) = some xb → fs.lookup ("end" : Str) = some xe → H' dd = some (.xd fs) → Ex H H' → E (.ref CN) (some dd) H') ∧
  (m.ok → ∀ (b e s t : V) (H' : Hp), KpP p H H' → H' p = some (.ins CM dx (kF m.n b e s t)) → Mo C m.b.1 m.b.2 b H' → Mo C m.e.1 m.e.2 e H' → Mo C m.s.1 m.s.2 s H' → Mo C m.t.1 m.t.2 t H' → Q .non H')
/-- NoMark(tone, begin, end)'s __init__ -/
def spNoK (K : PySem.W.Frag) (C : Addr) : Sp := fun vs H Q _ => ∃ (a : Addr) (x y z : V), vs = [.ref a, x, y, z] ∧ H a = some (exo a C none) ∧ Plain K H x ∧ Plain K H y ∧ Plain K H z ∧
  ∀ dx, H dx = none → dx ≠ a → Q .non (upd (upd (upd (upd H dx (exd dx [(("tone" : Str), x)])) a (exo a C (some dx))) dx (exd dx [(("begin" : Str), y), (("tone" : Str), x)])) dx (exd dx [(("end" : Str), z), (("begin" : Str), y), (("tone" : Str), x)]))
end Mo

namespace Mo
open PySem PyProof.Rows L2
open Evl (Ex)
/-! ### the fractions of marks -/
def Fsz (x : Int × Int) : Prop := Red x.1 x.2 ∧ Sm 400 x.1 ∧ Sm 400 x.2
structure KT.Sz (m : KT) : Prop where
  b : Fsz m.b
  e : Fsz m.e
  s : Fsz m.s
  t : Fsz m.t
theorem le_lt_tr {x y z : Int × Int} (px : 0 < x.2) (py : 0 < y.2) (pz : 0 < z.2) (h1 : x.1 * y.2 ≤ y.1 * x.2) (h2 : y.1 * z.2 < z.1 * y.2) : x.1 * z.2 < z.1 * x.2 := by
  have a1 : (x.1 * y.2) * z.2 ≤ (y.1 * x.2) * z.2 := Int.mul_le_mul_of_nonneg_right h1 (Int.le_of_lt pz)
  have a2 : (y.1 * z.2) * x.2 < (z.1 * y.2) * x.2 := Int.mul_lt_mul_of_pos_right h2 px
  have e1 : (x.1 * z.2) * y.2 = (x.1 * y.2) * z.2 := by grind
  have e2 : (y.1 * x.2) * z.2 = (y.1 * z.2) * x.2 := by grind
  have e3 : (z.1 * x.2) * y.2 = (z.1 * y.2) * x.2 := by grind
  exact Int.lt_of_mul_lt_mul_right (a := y.2) (by omega) (Int.le_of_lt py)
theorem lt_le_tr {x y z : Int × Int} (px : 0 < x.2) (py : 0 < y.2) (pz : 0 < z.2) (h1 : x.1 * y.2 < y.1 * x.2) (h2 : y.1 * z.2 ≤ z.1 * y.2) : x.1 * z.2 < z.1 * x.2 := by
  have a1 : (x.1 * y.2) * z.2 < (y.1 * x.2) * z.2 := Int.mul_lt_mul_of_pos_right h1 pz
  have a2 : (y.1 * z.2) * x.2 ≤ (z.1 * y.2) * x.2 := Int.mul_le_mul_of_nonneg_right h2 (Int.le_of_lt px)
  have e1 : (x.1 * z.2) * y.2 = (x.1 * y.2) * z.2 := by grind
  have e2 : (y.1 * x.2) * z.2 = (y.1 * z.2) * x.2 := by grind
  have e3 : (z.1 * x.2) * y.2 = (z.1 * y.2) * x.2 := by grind
  exact Int.lt_of_mul_lt_mul_right (a := y.2) (by omega) (Int.le_of_lt py)
theorem KT.ok_lt {m : KT} (h : m.Sz) (o : m.ok) : m.b.1 * m.e.2 < m.e.1 * m.b.2 := le_lt_tr h.b.1.1 h.s.1.1 h.e.1.1 o.1 (lt_le_tr h.s.1.1 h.t.1.1 h.e.1.1 o.2.1 o.2.2)
/-- the list of the four pairs -/
def Times (m : KT) (p : Addr) (H : Hp) : Prop := ∃ qb qe qs qt, H p = some (.lst [.ref qb, .ref qe, .ref qs, .ref qt]) ∧ H qb = some (.tup [.int m.b.1, .int m.b.2]) ∧ H qe = some (.tup [.int m.e.1, .int m.e.2]) ∧ H qs = some (.tup [.int m.s.1, .int m.s.2]) ∧ H qt = some (.tup [.int m.t.1, .int m.t.2])
theorem Times.ex {m : KT} {p : Addr} {H H' : Hp} (h : Times m p H) (e : Ex H H') : Times m p H' := by
  obtain ⟨a, b, c, d, h0, h1, h2, h3, h4⟩ := h
  exact ⟨a, b, c, d, e _ _ h0, e _ _ h1, e _ _ h2, e _ _ h3, e _ _ h4⟩
def spLow : Sp := fun vs H Q _ => ∃ n d : Int, vs = [.int n, .int d] ∧ 0 < d ∧ Sm 1900 n ∧ Sm 1900 d ∧ ∀ (t b : Int) (p : Addr) (H' : Hp), Norm n d t b → Ex H H' → H' p = some (.tup [.int t, .int b]) → Q (.ref p) H'
def spAddF (K : PySem.W.Frag) : Sp := fun vs H Q _ => ∃ (pa pb : Addr) (n1 d1 n2 d2 : Int), vs = [.ref pa, .ref pb] ∧ SqT K H pa [.int n1, .int d1] ∧ SqT K H pb [.int n2, .int d2] ∧ 0 < d1 ∧ 0 < d2 ∧ Sm 900 n1 ∧ Sm 900 d1 ∧ Sm 900 n2 ∧ Sm 900 d2 ∧
  ∀ (t b : Int) (p : Addr) (H' : Hp), Norm (n1 * d2 + n2 * d1) (d1 * d2) t b → Ex H H' → H' p = some (.tup [.int t, .int b]) → Q (.ref p) H'
def spUnder (K : PySem.W.Frag) : Sp := fun vs H Q _ => ∃ (pa pb : Addr) (n1 d1 n2 d2 : Int), vs = [.ref pa, .ref pb] ∧ SqT K H pa [.int n1, .int d1] ∧ SqT K H pb [.int n2, .int d2] ∧ Sm 900 n1 ∧ Sm 900 d1 ∧ Sm 900 n2 ∧ Sm 900 d2 ∧ Q (.bl (decide (n1 * d2 < n2 * d1))) H
def spValid : Sp := fun vs H Q _ => ∃ (p : Addr) (m : KT), vs = [.ref p] ∧ Times m p H ∧ m.Sz ∧ ∀ k : Bool, (k = true ↔ m.ok) → Q (.bl k) H
/-- a fraction passed as an int or as a moment -/
def Psd (C : Addr) (x : Int × Int) (i : Int) (v : V) (H : Hp) : Prop := (x.2 = 1 ∧ i = 1 ∧ v = .int x.1) ∨ (¬ (x.2 = 1 ∧ i = 1) ∧ Mo C x.1 x.2 v H)
theorem Psd.ex {C : Addr} {x : Int × Int} {i : Int} {v : V} {H H' : Hp} (h : Psd C x i v H) (e : Ex H H') : Psd C x i v H' := h.imp id fun h => ⟨h.1, h.2.ex e⟩
theorem Psd.ft {C : Addr} {x : Int × Int} {i : Int} {v : V} {H : Hp} (h : Psd C x i v H) (z : Fsz x) : FT C x v H := by
  refine ⟨?_, z.1.1, z.2.1.mono (by decide), z.2.2.mono (by decide)⟩
  rcases h with ⟨h1, _, h2⟩ | ⟨_, h⟩
  · exact .inr ⟨h2, h1⟩
  · exact .inl h
def spPassed (C : Addr) : Sp := fun vs H Q _ => ∃ (p : Addr) (x : Int × Int) (i : Int), vs = [.ref p, .int i] ∧ H p = some (.tup [.int x.1, .int x.2]) ∧ Fsz x ∧ ∀ v H', Ex H H' → Psd C x i v H' → Q v H'
/-- Mark(..) is called -/
theorem mark_rd {CM C CK : Addr} {m : KT} {xb xe xs xt : V} {H0 : Hp} {Q : VK} {E : XK} (hb : FT C m.b xb H0) (he : FT C m.e xe H0) (hs : (xs = .non ∧ m.s = m.b) ∨ FT C m.s xs H0) (ht : (xt = .non ∧ m.t = m.e) ∨ FT C m.t xt H0)
    (kE : ¬ m.ok → ∀ (dd : Addr) (fs : List (Str × V)) (H' : Hp), fs.lookup ("tone" : Str) = some (.int m.n) → fs.lookup ("begin" : Str) = some xb → fs.lookup ("end" : Str) = some xe → H' dd = some (.xd fs) → Ex H0 H' → E (.ref CK) (some dd) H')
    (kQ : m.ok → ∀ (v : V) (H' : Hp), Ex H0 H' → MkA CM C m v H' → Q v H') :
    ∀ x dx, H0 x = none → H0 dx = none → dx ≠ x → spMark CM C CK [.ref x, .int m.n, xb, xe, xs, xt] (upd (upd H0 dx (.own x)) x (.ins CM dx [])) (fun v H2 => v = .non ∧ Q (.ref x) H2) E := fun x dx n1 n2 n3 => by
  have e0 : Ex H0 (upd (upd H0 dx (.own x)) x (.ins CM dx [])) := fun q o h => by
    rw [upd_ne (ne_of_none h n1), upd_ne (ne_of_none h n2)]
    exact h
  refine ⟨x, dx, m, xb, xe, xs, xt, rfl, upd_same, hb.ex e0, he.ex e0, hs.imp id (fun h => h.ex e0), ht.imp id (fun h => h.ex e0), fun hn dd fs H' l1 l2 l3 h e => kE hn dd fs H' l1 l2 l3 h (e0.trans e), fun ho b e s t H' kp hp mb me ms mt => ⟨rfl, kQ ho _ H' (fun q o h => kp q o (e0 _ _ h) (ne_of_none h n1)) ⟨x, dx, b, e, s, t, rfl, hp, mb, me, ms, mt⟩⟩⟩
def spMarkL (CM C CK : Addr) : Sp := fun vs H Q E => ∃ (p : Addr) (m : KT) (i lf : Int), vs = [.int m.n, .ref p, .int i, .int lf] ∧ Times m p H ∧ m.Sz ∧ ((lf = 0 ∧ m.s = m.b ∧ m.t = m.e) ∨ (lf = 1 ∧ m.s = m.b) ∨ (lf = 2 ∧ m.t = m.e) ∨ lf = 3) ∧
  (m.ok → ∀ (v : V) (H' : Hp), Ex H H' → MkA CM C m v H' → Q v H') ∧
  (¬ m.ok → ∀ (dd : Addr) (fs : List (Str × V)) (xb xe : V) (H' : Hp), Ex H H' → Psd C m.b i xb H' → Psd C m.e i xe H' → fs.lookup ("tone" : Str) = some (.int m.n) → fs.lookup ("begin" : Str) = some xb → fs.lookup ("end" : Str) = some xe → H' dd = some (.xd fs) → E (.ref CK) (some dd) H')
theorem red_norm {n d t b : Int} (N : Norm n d t b) (r : Red n d) : t = n ∧ b = d := red_eq N.red r N.eq
/-- Mark(..) == -/
def KT.same (m m' : KT) : Prop := m = m'
def spKEq (CM C : Addr) : Sp := fun vs H Q _ => ∃ (x y : V) (m m' : KT), vs = [x, y] ∧ MkA CM C m x H ∧ MkA CM C m' y H ∧ m.Sz ∧ m'.Sz ∧ ∀ (k : Bool) (H' : Hp), (k = true ↔ m = m') → Ex H H' → Q (.bl k) H'
end Mo

namespace Mo
open PySem PyProof.Rows L2
open Evl (Ex)
theorem eqG_or {X : Cx} {n : Nat} {D D' : Eqv} (h : EqG X n D) (h' : EqG X n D') : EqG X n (fun x y H => D x y H ∨ D' x y H) := fun A pins s σ H x y u v sb I rx ry d => by
  rcases d with d | d
  · exact h A pins s σ H x y u v sb I rx ry d
  · exact h' A pins s σ H x y u v sb I rx ry d
theorem mon_or {D D' : Eqv} (h : Mon D) (h' : Mon D') : Mon (fun x y H => D x y H ∨ D' x y H) := fun x y H H' e d => d.imp (h x y H H' e) (h' x y H H' e)
/-- the same moment twice -/
def RMo (C : Addr) : Addr → Addr → Hp → Prop := fun a b H => ∃ t d : Int, Mo C t d (.ref a) H ∧ Mo C t d (.ref b) H
def DEl (C : Addr) : Eqv := fun x y H => DFlat x y H ∨ DIns C (RMo C) x y H
theorem mon_El {C : Addr} : Mon (DEl C) := mon_or mon_flat (mon_ins fun a b H H' e h => by
  obtain ⟨t, d, h1, h2⟩ := h
  exact ⟨t, d, h1.ex e, h2.ex e⟩)
theorem eq_imp {C : Addr} : ∀ vs H Q E, spEq (RMo C) vs H Q E → spEq2 C vs H Q E := fun vs H Q E h => by
  obtain ⟨a, b, rfl, ⟨t, d, h1, h2⟩, k⟩ := h
  exact ⟨_, _, t, d, rfl, h1, .inl ⟨t, d, h2, fun c H' e hc => by
    obtain rfl : c = true := hc.mpr ⟨rfl, rfl⟩
    exact k H' e⟩⟩
theorem op_eqEl {X : Cx} {C fE : Addr} {dE : FuncData} (heq : PySem.W.findIn X.K (.ref C) "__eq__" = some (some (.ref fE))) (heqf : PySem.W.isFn X.K (.ref fE) = true) (EF : FnOk X.prog X.w X.K X.mg X.base CX0 1 fE dE ["self", "other"] (spEq2 C)) (Eb : Binds X.K dE ["self", "other"] []) (hr : Room 2 X.A) :
    OpR X (compareOp .Eq) (rEqG (DList (DEl C))) := op_eqG (rcG_list mon_El (eqG_or (eqG_flat.mono (by decide)) (eqG_ins (EF.imp eq_imp) heq heqf Eb pass0))) hr
theorem psd_el {C : Addr} {x : Int × Int} {i : Int} {v v' : V} {H : Hp} (h : Psd C x i v H) (h' : Psd C x i v' H) : DEl C v v' H := by
  rcases h with ⟨a1, a2, rfl⟩ | ⟨a, h⟩
  · rcases h' with ⟨_, _, rfl⟩ | ⟨b, _⟩
    · exact .inl ⟨rfl, rfl, by simp [eqV]⟩
    · exact absurd ⟨a1, a2⟩ b
  · rcases h' with ⟨b1, b2, _⟩ | ⟨_, h'⟩
    · exact absurd ⟨b1, b2⟩ a
    · obtain ⟨p, d, rfl, e⟩ := id h
      obtain ⟨q, d', rfl, e'⟩ := id h'
      exact .inr ⟨p, q, _, _, _, _, rfl, rfl, e, e', _, _, h, h'⟩
theorem kt_ext {m m' : KT} : m = m' ↔ m.n = m'.n ∧ m.b = m'.b ∧ m.e = m'.e ∧ m.s = m'.s ∧ m.t = m'.t := by
  constructor
  · rintro rfl
    exact ⟨rfl, rfl, rfl, rfl, rfl⟩
  · obtain ⟨a, b, c, d, e⟩ := m
    obtain ⟨a', b', c', d', e'⟩ := m'
    rintro ⟨rfl, rfl, rfl, rfl, rfl⟩
    rfl
def spKEq2 (CM C : Addr) : Sp := fun vs H Q _ => ∃ (x y : V) (m m' : KT), vs = [x, y] ∧ MkA CM C m x H ∧ MkA CM C m' y H ∧ ∀ (k : Bool) (H' : Hp), (k = true ↔ m = m') → Ex H H' → Q (.bl k) H'
theorem kf_tone {n : Int} {b e s t : V} : (kF n b e s t).lookup ("tone" : Str) = some (.int n) := by rw [kF_look, if_neg (by decide +kernel), if_neg (by decide +kernel), if_neg (by decide +kernel), if_neg (by decide +kernel), if_pos rfl]
theorem kf_begin {n : Int} {b e s t : V} : (kF n b e s t).lookup ("begin" : Str) = some b := by rw [kF_look, if_neg (by decide +kernel), if_neg (by decide +kernel), if_neg (by decide +kernel), if_pos rfl]
theorem kf_end {n : Int} {b e s t : V} : (kF n b e s t).lookup ("end" : Str) = some e := by rw [kF_look, if_neg (by decide +kernel), if_neg (by decide +kernel), if_pos rfl]
theorem kf_start {n : Int} {b e s t : V} : (kF n b e s t).lookup ("start" : Str) = some s := by rw [kF_look, if_neg (by decide +kernel), if_pos rfl]
theorem kf_stop {n : Int} {b e s t : V} : (kF n b e s t).lookup ("stop" : Str) = some t := by rw [kF_look, if_pos rfl]
/-- what _law_tried tells -/
def spTried (CM C : Addr) : Sp := fun vs H Q _ => ∃ (p : Addr) (m : KT) (i lf : Int), vs = [.int m.n, .ref p, .int i, .int lf] ∧ Times m p H ∧ m.Sz ∧ ((lf = 0 ∧ m.s = m.b ∧ m.t = m.e) ∨ (lf = 1 ∧ m.s = m.b) ∨ (lf = 2 ∧ m.t = m.e) ∨ lf = 3) ∧
  ∀ (q : Addr) (v : V) (H' : Hp), Ex H H' → H' q = some (.tup [.bl true, v]) → ((m.ok ∧ MkA CM C m v H') ∨ (¬ m.ok ∧ v = .non)) → Q (.ref q) H'
theorem Fsz.hold {x : Int × Int} (h : Fsz x) : Sm 4000 x.1 ∧ Sm 4000 x.2 := ⟨h.2.1.mono (by decide), h.2.2.mono (by decide)⟩
end Mo

namespace Mo
open PySem PyProof.Rows L2
open Evl (Ex)
theorem MkA.nn {CM C : Addr} {m : KT} {v : V} {H : Hp} (h : MkA CM C m v H) : v ≠ .non := fun z => by
  obtain ⟨a, dx, b, e, s, t, h0, _⟩ := h
  rw [h0] at z
  cases z
theorem MkA.isC {CM C : Addr} {m : KT} {v : V} {H : Hp} (h : MkA CM C m v H) : IsC CM v H := by
  obtain ⟨a, dx, b, e, s, t, h0, h1, _⟩ := h
  exact ⟨a, dx, _, h0, h1⟩
theorem MkA.par {CM C : Addr} {m : KT} {v : V} {H : Hp} (h : MkA CM C m v H) : Par CM H v := by
  obtain ⟨a, dx, b, e, s, t, rfl, h1, _⟩ := h
  exact .ins h1
def F80 (x : Int × Int) : Prop := Red x.1 x.2 ∧ Sm 80 x.1 ∧ Sm 80 x.2
theorem F80.fsz {x : Int × Int} (h : F80 x) : Fsz x := ⟨h.1, h.2.1.mono (by decide), h.2.2.mono (by decide)⟩
theorem tupK {H : Hp} {q l : Addr} {xs ys zs : List V} (h : H q = some (.tup xs)) (e : H l = some (.lst ys)) : L2.upd H l (.lst zs) q = some (.tup xs) := by
  have : q ≠ l := fun w => by
    rw [w, e] at h
    cases h
  rw [upd_ne this]
  exact h
def dTimes (m : KT) : PyData := .list [.tuple [.int m.b.1, .int m.b.2], .tuple [.int m.e.1, .int m.e.2], .tuple [.int m.s.1, .int m.s.2], .tuple [.int m.t.1, .int m.t.2]]
theorem dp_times {K : PySem.W.Frag} {m : KT} {p : Addr} {H : Hp} (h : Times m p H) : Dp K H (.ref p) (dTimes m) := by
  obtain ⟨a, b, c, d, h0, h1, h2, h3, h4⟩ := h
  have two : ∀ (i j : Int), DpAll K H [V.int i, V.int j] [.int i, .int j] := fun i j => .cons (.int i) (.cons (.int j) .nil)
  exact .lst (SqL.of h0) (.cons (.tup (SqT.of h1) (two _ _)) (.cons (.tup (SqT.of h2) (two _ _)) (.cons (.tup (SqT.of h3) (two _ _)) (.cons (.tup (SqT.of h4) (two _ _)) .nil))))
theorem eqv_times {m m' : KT} : PyData.eqv (dTimes m) (dTimes m') = true ↔ m.b = m'.b ∧ m.e = m'.e ∧ m.s = m'.s ∧ m.t = m'.t := by
  simp [dTimes, PyData.eqv, PyData.eqvAll, Prod.ext_iff]
/-- a list of pairs that are fractions in lowest terms -/
inductive PrL : List V → List (Int × Int) → Hp → Prop where
  | nil {H : Hp} : PrL [] [] H
  | cons {q : Addr} {x : Int × Int} {xs : List V} {fs : List (Int × Int)} {H : Hp} (h : H q = some (.tup [.int x.1, .int x.2])) (z : F80 x) (t : PrL xs fs H) : PrL (.ref q :: xs) (x :: fs) H
theorem PrL.ex : ∀ {xs : List V} {fs : List (Int × Int)} {H H' : Hp}, PrL xs fs H → Ex H H' → PrL xs fs H'
  | _, _, _, _, .nil, _ => .nil
  | _, _, _, _, .cons h z t, e => .cons (e _ _ h) z (t.ex e)
theorem PrL.len : ∀ {xs : List V} {fs : List (Int × Int)} {H : Hp}, PrL xs fs H → xs.length = fs.length
  | _, _, _, .nil => rfl
  | _, _, _, .cons h z t => by rw [List.length_cons, List.length_cons, t.len]
theorem PrL.snoc : ∀ {xs : List V} {fs : List (Int × Int)} {H : Hp} {q : Addr} {x : Int × Int}, PrL xs fs H → H q = some (.tup [.int x.1, .int x.2]) → F80 x → PrL (xs ++ [.ref q]) (fs ++ [x]) H
  | _, _, _, _, _, .nil, h, z => .cons h z .nil
  | _, _, _, _, _, .cons h z t, h', z' => .cons h z (t.snoc h' z')
theorem PrL.upd : ∀ {xs : List V} {fs : List (Int × Int)} {H : Hp} {l : Addr} {ys zs : List V}, PrL xs fs H → H l = some (.lst ys) → PrL xs fs (L2.upd H l (.lst zs))
  | _, _, _, _, _, _, .nil, _ => .nil
  | _, _, _, l, _, _, .cons (q := q) h z t, e => .cons (by
      have : q ≠ l := fun w => by
        rw [w, e] at h
        cases h
      rw [upd_ne this]
      exact h) z (t.upd e)
theorem PrL.get : ∀ {xs : List V} {fs : List (Int × Int)} {H : Hp} {i : Nat} {x : V}, PrL xs fs H → xs[i]? = some x → ∃ q y, x = .ref q ∧ fs[i]? = some y ∧ H q = some (.tup [.int y.1, .int y.2]) ∧ F80 y
  | _, _, _, 0, _, .cons h z t, e => by cases e; exact ⟨_, _, rfl, rfl, h, z⟩
  | _, _, _, i + 1, _, .cons h z t, e => t.get (i := i) e
theorem PrL.four {xs : List V} {fs : List (Int × Int)} {H : Hp} (h : PrL xs fs H) (l : fs.length = 4) : ∃ (q0 q1 q2 q3 : Addr) (x0 x1 x2 x3 : Int × Int), xs = [.ref q0, .ref q1, .ref q2, .ref q3] ∧ fs = [x0, x1, x2, x3] ∧
    H q0 = some (.tup [.int x0.1, .int x0.2]) ∧ H q1 = some (.tup [.int x1.1, .int x1.2]) ∧ H q2 = some (.tup [.int x2.1, .int x2.2]) ∧ H q3 = some (.tup [.int x3.1, .int x3.2]) ∧ F80 x0 ∧ F80 x1 ∧ F80 x2 ∧ F80 x3 := by
  cases h with
  | nil => cases l
  | cons h0 z0 t =>
    cases t with
    | nil => simp at l
    | cons h1 z1 t =>
      cases t with
      | nil => simp at l
      | cons h2 z2 t =>
        cases t with
        | nil => simp at l
        | cons h3 z3 t =>
          cases t with
          | nil => exact ⟨_, _, _, _, _, _, _, _, rfl, rfl, h0, h1, h2, h3, z0, z1, z2, z3⟩
          | cons h4 z4 t => simp at l
theorem tyes_if {σ : L2.St} {H : Hp} {A B : Hp → Prop} (h : A H) : tYes σ H (fun b H3 => if b = true then A H3 else B H3) := by
  show (if true = true then A H else B H)
  exact L2.iteT h
theorem ten_of {ys : List Int} (h : ys.length = 10) : ∃ a b c d e f g i j k, ys = [a, b, c, d, e, f, g, i, j, k] := match ys, h with | [a, b, c, d, e, f, g, i, j, k], _ => ⟨a, b, c, d, e, f, g, i, j, k, rfl⟩
theorem fsz_of {n d t b : Int} {k j : Nat} (N : Norm n d t b) (hn : Sm k n) (hd : Sm j d) (hk : k ≤ 80) (hj : j ≤ 80) : F80 (t, b) := ⟨N.red, (N.st hn).mono hk, (N.sb hd).mono hj⟩
end Mo

namespace Mo
open PySem L2 TL PySem.Builtin.Str
/-! ### the signs of numbers -/
def numT (z : Int) : List Nat := if z < 0 then 45 :: numL z.natAbs else numL z.natAbs
theorem tl_int (z : Int) : tl (Str.ofString (toString z)) = numT z := by
  cases z with
  | ofNat m =>
    rw [show numT (Int.ofNat m) = numL m from if_neg (by simp)]
    exact tl_num m
  | negSucc m =>
    rw [show numT (Int.negSucc m) = 45 :: numL (m + 1) from if_pos (by simp)]
    rw [tl_ofString]
    show (("-" ++ toString (m + 1) : String).toList).map Char.toNat = _
    rw [String.toList_append, List.map_append]
    have e := tl_num (m + 1)
    rw [tl_ofString] at e
    show [45] ++ _ = _
    rw [show (toString ((m + 1 : Nat) : Int)) = toString (m + 1) from rfl] at e
    rw [e]
    rfl
def pad0 (k : Nat) (l : List Nat) : List Nat := List.replicate (k - l.length) 48 ++ l
theorem numL_block : ∀ (k q m : Nat), 1 ≤ k → 1 ≤ q → m < 10 ^ k → numL (q * 10 ^ k + m) = numL q ++ pad0 k (numL m)
  | 0, _, _, h, _, _ => absurd h (by decide)
  | 1, q, m, _, hq, hm => by
    have hm : m < 10 := by simpa using hm
    rw [Nat.pow_one, numL_step (by omega), show (q * 10 + m) / 10 = q by omega, show (q * 10 + m) % 10 = m by omega, numL_lt hm]
    rfl
  | k + 2, q, m, _, hq, hm => by
    have hp : 0 < 10 ^ (k + 1) := Nat.pow_pos (by decide)
    have e : q * 10 ^ (k + 2) + m = (q * 10 ^ (k + 1) + m / 10) * 10 + m % 10 := by
      rw [Nat.pow_succ 10 (k + 1), Nat.add_mul, ← Nat.mul_assoc]
      omega
    have h10 : 10 ≤ q * 10 ^ (k + 2) + m := by
      have : 1 * 10 ^ (k + 2) ≤ q * 10 ^ (k + 2) := Nat.mul_le_mul_right _ hq
      rw [Nat.pow_succ 10 (k + 1)] at this
      rw [Nat.pow_succ 10 (k + 1)]
      omega
    have hm' : m / 10 < 10 ^ (k + 1) := by
      rw [Nat.pow_succ] at hm
      omega
    have l := numL_len (n := m / 10) (k := k + 1) (by omega) hm'
    rw [numL_step h10, e, show ((q * 10 ^ (k + 1) + m / 10) * 10 + m % 10) / 10 = q * 10 ^ (k + 1) + m / 10 by omega, show ((q * 10 ^ (k + 1) + m / 10) * 10 + m % 10) % 10 = m % 10 by omega,
      numL_block (k + 1) q (m / 10) (by omega) hq hm', List.append_assoc]
    congr 1
    unfold pad0
    by_cases h : m < 10
    · rw [numL_lt h, show m / 10 = 0 by omega, numL_lt (show 0 < 10 by decide), show m % 10 = m by omega]
      show List.replicate (k + 1 - 1) 48 ++ [48] ++ [48 + m] = List.replicate (k + 2 - 1) 48 ++ [48 + m]
      rw [← List.replicate_succ']
      rfl
    · rw [numL_step (n := m) (by omega), List.length_append, List.length_singleton, ← List.append_assoc, show k + 2 - ((numL (m / 10)).length + 1) = k + 1 - (numL (m / 10)).length by omega]
theorem zfill_tl {a : Str} {n : Int} {k : Nat} (hn : n = (k : Int)) (hd : NumText.AllDigits (tl a)) (hl : (tl a).length ≤ k) : tl (Txt.zfill a n) = pad0 k (tl a) := by
  subst hn
  have la := len_tl a
  unfold Txt.zfill
  by_cases h : (k : Int) ≤ (a.length : Int)
  · rw [if_pos h]
    unfold pad0
    rw [show k - (tl a).length = 0 by omega]
    rfl
  · rw [if_neg h]
    unfold zfilled
    have h0 : a.cps[0]? ≠ some 43 ∧ a.cps[0]? ≠ some 45 := by
      have : ∀ c, a.cps[0]? = some c → 48 ≤ c ∧ c ≤ 57 := fun c e => hd c (by
        rw [← Array.getElem?_toList] at e
        exact List.mem_of_getElem? e)
      constructor <;> intro e <;> have := this _ e <;> omega
    have e : tl (padded a ((k : Int).toNat - a.length) 0 48) = pad0 k (tl a) := by
      unfold padded pad0 tl
      simp [la, tl]
    split
    · rename_i q
      exact absurd q h0.1
    · rename_i q
      exact absurd q h0.2
    · exact e
/-! ### canonical digits -/
theorem digits_lt : ∀ (l : List Nat), NumText.AllDigits l → NumText.digitsVal l < 10 ^ l.length := by
  suffices h : ∀ (n : Nat) (l : List Nat), l.length = n → NumText.AllDigits l → NumText.digitsVal l < 10 ^ l.length from fun l => h _ l rfl
  intro n
  induction n with
  | zero =>
    intro l hl _
    rw [List.length_eq_zero_iff.mp hl]
    decide
  | succ n ih =>
    intro l hl hd
    have hne : l ≠ [] := by intro e; rw [e] at hl; cases hl
    have e := List.dropLast_concat_getLast hne
    generalize l.dropLast = ini at e
    generalize l.getLast hne = c at e
    subst e
    have hc := hd c (List.mem_append_right _ (List.mem_singleton.mpr rfl))
    have hi := ih ini (by rw [List.length_append, List.length_singleton] at hl; omega) (fun d hd' => hd d (List.mem_append_left _ hd'))
    rw [NumText.digitsVal_snoc, List.length_append, List.length_singleton, Nat.pow_succ]
    omega
theorem numL_canon {l : List Nat} (hd : NumText.AllDigits l) (hne : l ≠ []) (hc : l.head? ≠ some 48 ∨ l = [48]) : numL (NumText.digitsVal l) = l := by
  cases l with
  | nil => exact absurd rfl hne
  | cons c r =>
    unfold numL
    rw [NumText.toDigits_digitsVal r.length (c :: r) rfl hd ?_]
    · rw [List.map_map]
      refine (List.map_congr_left fun d hd' => ?_).trans (List.map_id _)
      have := hd d hd'
      show (Char.ofNat d).toNat = d
      exact (by decide : ∀ n : _root_.Fin 58, (Char.ofNat n.val).toNat = n.val) ⟨d, by omega⟩
    · rcases hc with hc | hc
      · right
        have := hd c List.mem_cons_self
        refine ⟨c, r, rfl, ?_⟩
        have : c ≠ 48 := fun e => hc (by rw [e]; rfl)
        omega
      · left
        injection hc with _ h
        rw [h]
        rfl
theorem canon_numL {l : List Nat} (hd : NumText.AllDigits l) (h : numL (NumText.digitsVal l) = l) : l.head? ≠ some 48 ∨ l = [48] := by
  cases l with
  | nil => left; intro z; cases z
  | cons c r =>
    by_cases e : c = 48
    · subst e
      right
      cases r with
      | nil => rfl
      | cons d r =>
        exfalso
        have hd' : NumText.AllDigits (d :: r) := hd.tail
        rw [NumText.digitsVal_zero] at h
        have l1 := numL_len (n := NumText.digitsVal (d :: r)) (k := (d :: r).length) (by simp) (digits_lt _ hd')
        rw [h] at l1
        simp at l1
        omega
    · left
      intro z
      injection z with z
      exact e z
/-! ### texts of moments -/
theorem numT_free (z : Int) : 47 ∉ numT z := by
  unfold numT
  split
  · intro h
    rcases List.mem_cons.mp h with h | h
    · cases h
    · exact numL_free (by omega) h
  · exact numL_free (by omega)
theorem numT_ne (z : Int) : numT z ≠ [] := by
  unfold numT
  split
  · intro h; cases h
  · exact numL_ne _
/-- at most 60 digits, at least one -/
def Nm (l : List Nat) : Prop := l.length ≤ 60 ∧ l ≠ [] ∧ NumText.AllDigits l
/-- without its sign -/
def bare : List Nat → List Nat
  | 45 :: r => r
  | l => l
/-- the int that such a text says -/
def sval : List Nat → Int
  | 45 :: r => -((NumText.digitsVal r : Nat) : Int)
  | l => ((NumText.digitsVal l : Nat) : Int)
theorem bare_digits {l : List Nat} (h : NumText.AllDigits l) : bare l = l := by
  unfold bare
  split
  · have := h 45 List.mem_cons_self
    omega
  · rfl
theorem sval_digits {l : List Nat} (h : NumText.AllDigits l) : sval l = ((NumText.digitsVal l : Nat) : Int) := by
  unfold sval
  split
  · have := h 45 List.mem_cons_self
    omega
  · rfl
/-- what the law takes for a number; s: a sign may stand -/
def LN (s : Bool) (l : List Nat) : Prop := ∃ d, d = (if s = true ∧ l.take 1 = [45] then l.drop 1 else l) ∧ Nm d ∧ (d.head? ≠ some 48 ∨ l = [48])
theorem LN.bare {s : Bool} {l : List Nat} (h : LN s l) : Nm (bare l) := by
  obtain ⟨d, e, hn, _⟩ := h
  split at e
  · rename_i c
    cases l with
    | nil => cases c.2
    | cons a r =>
      have : a = 45 := by have := c.2; simpa using this
      subst this
      subst e
      exact hn
  · subst e
    rw [bare_digits hn.2.2]
    exact hn
theorem LN.digits {l : List Nat} (h : LN false l) : Nm l := by
  obtain ⟨d, e, hn, _⟩ := h
  rw [if_neg (fun z => Bool.noConfusion z.1)] at e
  subst e
  exact hn
theorem numT_iff {l : List Nat} (h : Nm (bare l)) : numT (sval l) = l ↔ LN true l := by
  by_cases c : ∃ r, l = 45 :: r
  · obtain ⟨r, rfl⟩ := c
    have hn : Nm r := h
    have es : sval (45 :: r) = -((NumText.digitsVal r : Nat) : Int) := rfl
    constructor
    · intro e
      refine ⟨r, by rw [if_pos ⟨rfl, rfl⟩]; rfl, hn, ?_⟩
      left
      rw [es] at e
      unfold numT at e
      split at e
      · rename_i hz
        injection e with _ e
        rw [show (-((NumText.digitsVal r : Nat) : Int)).natAbs = NumText.digitsVal r by omega] at e
        rcases canon_numL hn.2.2 e with z | z
        · exact z
        · subst z
          exact absurd hz (by decide)
      · exfalso
        have := numL_digits (-((NumText.digitsVal r : Nat) : Int)).natAbs 45 (by rw [e]; exact List.mem_cons_self)
        omega
    · rintro ⟨d, ed, _, hc⟩
      rw [if_pos ⟨rfl, rfl⟩] at ed
      have ed : d = r := ed
      subst ed
      have hc : d.head? ≠ some 48 := hc.resolve_right (by intro z; cases z)
      have hp : 0 < NumText.digitsVal d := by
        cases d with
        | nil => exact absurd rfl hn.2.1
        | cons a q =>
          have := hn.2.2 a List.mem_cons_self
          refine NumText.digitsVal_pos ?_
          have : a ≠ 48 := fun z => hc (by rw [z]; rfl)
          omega
      rw [es]
      unfold numT
      rw [if_pos (by omega), show (-((NumText.digitsVal d : Nat) : Int)).natAbs = NumText.digitsVal d by omega, numL_canon hn.2.2 hn.2.1 (.inl hc)]
  · have eb : bare l = l := by
      unfold Mo.bare
      split
      · exact absurd ⟨_, rfl⟩ c
      · rfl
    rw [eb] at h
    have es := sval_digits h.2.2
    have ht : l.take 1 ≠ [45] := by
      intro z
      cases l with
      | nil => cases z
      | cons a r => exact c ⟨r, by have : a = 45 := by simpa using z
                                   rw [this]⟩
    have en : numT (sval l) = numL (NumText.digitsVal l) := by
      rw [es]
      unfold numT
      rw [if_neg (by omega)]
      rfl
    rw [en]
    constructor
    · intro e
      exact ⟨l, by rw [if_neg (fun z => ht z.2)], h, canon_numL h.2.2 e⟩
    · rintro ⟨d, ed, _, hc⟩
      rw [if_neg (fun z => ht z.2)] at ed
      subst ed
      exact numL_canon h.2.2 h.2.1 hc
theorem numL_iff {l : List Nat} (h : Nm l) : numL (NumText.digitsVal l) = l ↔ LN false l := by
  constructor
  · intro e
    exact ⟨l, by rw [if_neg (fun z => Bool.noConfusion z.1)], h, canon_numL h.2.2 e⟩
  · rintro ⟨d, ed, _, hc⟩
    rw [if_neg (fun z => Bool.noConfusion z.1)] at ed
    subst ed
    exact numL_canon h.2.2 h.2.1 hc
/-- str(moment) -/
def strM (t b : Int) : List Nat := if b = 1 then numT t else numT t ++ 47 :: numT b
/-- a text is the text of a moment -/
def Written (l : List Nat) : Prop := (47 ∉ l ∧ LN true l) ∨ ∃ x y, l = x ++ 47 :: y ∧ 47 ∉ x ∧ LN true x ∧ LN false y ∧ 1 < NumText.digitsVal y ∧ Int.gcd (sval x) (NumText.digitsVal y : Int) = 1
/-- the fraction that it writes -/
def Frac (l : List Nat) (n d : Int) : Prop := (47 ∉ l ∧ n = sval l ∧ d = 1) ∨ ∃ x y, l = x ++ 47 :: y ∧ 47 ∉ x ∧ n = sval x ∧ d = ((NumText.digitsVal y : Nat) : Int)
theorem cut_eq {x y x' y' : List Nat} (h : x ++ 47 :: y = x' ++ 47 :: y') (h1 : 47 ∉ x) (h2 : 47 ∉ x') : x = x' ∧ y = y' := by
  induction x generalizing x' with
  | nil =>
    cases x' with
    | nil => exact ⟨rfl, by injection h⟩
    | cons a r =>
      injection h with e _
      exact absurd (by rw [← e]; exact List.mem_cons_self) h2
  | cons a r ih =>
    cases x' with
    | nil =>
      injection h with e _
      exact absurd (by rw [e]; exact List.mem_cons_self) h1
    | cons a' r' =>
      injection h with e e'
      obtain ⟨z1, z2⟩ := ih e' (fun z => h1 (List.mem_cons_of_mem _ z)) (fun z => h2 (List.mem_cons_of_mem _ z))
      exact ⟨by rw [e, z1], z2⟩
theorem sval_size {l : List Nat} (h : Nm (bare l)) : (sval l).natAbs < 10 ^ 60 := by
  have k : ∀ r : List Nat, Nm r → NumText.digitsVal r < 10 ^ 60 := fun r hr => Nat.lt_of_lt_of_le (digits_lt r hr.2.2) (Nat.pow_le_pow_right (by decide) hr.1)
  unfold sval
  split
  · rename_i r
    have := k r h
    omega
  · rename_i hn
    have e : bare l = l := by
      unfold bare
      split
      · exact absurd rfl (hn _)
      · rfl
    rw [e] at h
    have := k _ h
    omega
theorem val_size {l : List Nat} (h : Nm l) : NumText.digitsVal l < 10 ^ 60 := Nat.lt_of_lt_of_le (digits_lt l h.2.2) (Nat.pow_le_pow_right (by decide) h.1)
theorem norm_same {n d t b : Int} (N : Norm n d t b) (hd : 0 < d) : (t = n ∧ b = d) ↔ Int.gcd n d = 1 := by
  constructor
  · rintro ⟨rfl, rfl⟩
    exact N.gcd
  · intro h
    exact red_eq N.red ⟨hd, h⟩ N.eq
/-- read: no slash -/
theorem read_plain {l : List Nat} (hs : 47 ∉ l) (h : Nm (bare l)) : strM (sval l) 1 = l ↔ Written l := by
  unfold strM
  rw [if_pos rfl, numT_iff h]
  constructor
  · intro z
    exact .inl ⟨hs, z⟩
  · rintro (z | ⟨x, y, e, _⟩)
    · exact z.2
    · exact absurd (by rw [e]; simp) hs
/-- read: with a slash -/
theorem read_frac {x y : List Nat} {t b : Int} (hs : 47 ∉ x) (hx : Nm (bare x)) (hy : Nm y) (hp : 0 < NumText.digitsVal y) (N : Norm (sval x) (NumText.digitsVal y : Int) t b) : strM t b = x ++ 47 :: y ↔ Written (x ++ 47 :: y) := by
  constructor
  · intro e
    unfold strM at e
    split at e
    · exact absurd (by rw [e]; simp) (numT_free t)
    · rename_i hb
      obtain ⟨e1, e2⟩ := cut_eq e (numT_free t) hs
      have hbp := N.pos
      have eb : numT b = numL b.natAbs := if_neg (by omega)
      rw [eb] at e2
      have vb : NumText.digitsVal y = b.natAbs := by rw [← e2, numL_val]
      have ex : sval x = t := by
        rw [← e1]
        unfold numT
        split
        · show -((NumText.digitsVal (numL t.natAbs) : Nat) : Int) = t
          rw [numL_val]
          omega
        · rw [sval_digits (numL_digits _), numL_val]
          omega
      refine .inr ⟨x, y, rfl, hs, (numT_iff hx).mp (by rw [ex, e1]), (numL_iff hy).mp (by rw [vb, e2]), by omega, ?_⟩
      exact (norm_same N (by omega)).mp ⟨ex.symm, by omega⟩
  · rintro (⟨z, _⟩ | ⟨x', y', e, hs', l1, l2, h1, hg⟩)
    · exact absurd (by simp) z
    · obtain ⟨rfl, rfl⟩ := cut_eq e hs hs'
      obtain ⟨rfl, rfl⟩ := (norm_same N (by omega)).mpr hg
      unfold strM
      rw [if_neg (by omega), (numT_iff hx).mpr l1]
      show x ++ 47 :: numT _ = _
      unfold numT
      rw [if_neg (by omega)]
      show x ++ 47 :: numL (NumText.digitsVal y) = _
      rw [(numL_iff hy).mpr l2]
theorem not_plain {l : List Nat} (hs : 47 ∉ l) (h : ¬ Nm (bare l)) : ¬ Written l := by
  rintro (z | ⟨x, y, e, _⟩)
  · exact h z.2.bare
  · exact hs (by rw [e]; simp)
theorem not_frac {x y : List Nat} (hs : 47 ∉ x) (h : ¬ (Nm (bare x) ∧ Nm y ∧ 0 < NumText.digitsVal y)) : ¬ Written (x ++ 47 :: y) := by
  rintro (⟨z, _⟩ | ⟨x', y', e, hs', l1, l2, h1, _⟩)
  · exact z (by simp)
  · obtain ⟨rfl, rfl⟩ := cut_eq e hs hs'
    exact h ⟨l1.bare, l2.digits, by omega⟩
theorem split47 (l : List Nat) : 47 ∉ l ∨ ∃ x y, l = x ++ 47 :: y ∧ 47 ∉ x := by
  induction l with
  | nil => exact .inl (by simp)
  | cons a r ih =>
    by_cases h : a = 47
    · exact .inr ⟨[], r, by rw [h]; rfl, by simp⟩
    · rcases ih with ih | ⟨x, y, e, hx⟩
      · exact .inl (by simp [ih]; omega)
      · exact .inr ⟨a :: x, y, by rw [e]; rfl, by simp [hx]; omega⟩
end Mo

namespace Mo
open PySem L2 ClX
/-- C.m is a staticmethod: its record at p, its def at g -/
structure CSt (K : PySem.W.Frag) (C : Addr) (mc : Value) (m : Str) (p g : Addr) : Prop where
  at_ : PySem.W.findCls K (.ref C) mc m = some (.get (.builtin "staticmethod.__get__") (.ref p) .none (.ref C))
  rc : ∃ rest, PySem.W.recIn K p "staticmethod" = some (.ref g :: rest)
  kp : PySem.W.keepIn K (.ref g) = true
section
variable {X : Cx} {CX : CXT} {k : Nat} {C p g : Addr} {mc : Value} {fd : FuncData} {ps : List Str} {sp : Sp} {E : L2.St → XK} {o e : Expr} {es : List Expr} {m : Str} {pos apos : Pos} {ta : TE} {t : TA} {pl : Sem Bool} {dvs : List V} {ds : List Value}
theorem getst_ok {pins : List (Addr × Obj)} {σ : L2.St} {H : Hp} {s : Shared} {A : Around} {E : Value → Shared → Prop} {b : Bool} {Q : Value → Shared → Prop} (I : Inv X pins σ H s) (r : CRead X.K C mc) (k : CSt X.K C mc m p g)
    (h : ∀ s', Inv X pins σ H s' → Q (.ref g) s') : wpAny (model X.prog X.w) A (getAttr (.ref C) m b) Q E s := by
  obtain ⟨rest, hp⟩ := k.rc
  refine PySem.W.cls_bind I.kIn r.rd k.at_ ?_
  refine wpAny_call (PySem.W.sm_get (s := { s with toks := s.toks + 1 }) I.kIn hp (PySem.W.handed_on rfl ?_))
  exact h _ (I.tok _)
/-- C.m(e, ..), m a staticmethod -/
def tSt (C : Addr) (sp : Sp) (dvs : List V) (E : L2.St → XK) (ta : TE) (t : TA) : TE := fun σ H Q => ta σ H fun x H1 => x = .ref C ∧ t σ H1 fun vs H2 => sp (vs ++ dvs) H2 Q (E σ)
theorem pe_smS (he : PE X o ta) (r : CRead X.K C mc) (c : CSt X.K C mc m p g) (F : FnOk X.prog X.w X.K X.mg X.base CX k g fd ps sp) (hr : Room k X.A) (hb : Binds X.K fd ps ds) (hd : Vals dvs ds) (hx : ∀ σ, PassesAt CX X σ (E σ)) (ha : PA X (e :: es) t)
    (hst : starEach (e :: es) X.env = (false, eval e X.env) :: starEach es X.env := by rfl) (hpl : (backTo pos (starEach es X.env)).any (·.1) = false := by rfl)
    (ht : eval (.Call (.Attribute o m apos) (e :: es) [] pos) X.env = (do
      let ov ← eval o X.env
      standAt apos.atName
      let (f, first) ← holding [ov] (getMethod ov m pl)
      callWith pos f first (backTo pos (starEach (e :: es) X.env)) (backToKw pos (keywordEach [] X.env))) := by rfl) :
    PE X (.Call (.Attribute o m apos) (e :: es) [] pos) (tSt C sp dvs E ta t) := by
  refine ⟨fun pins s σ H Q I h => ?_⟩
  refine PySem.W.methodCall_KW (pl := pl) (thn (he.run pins s σ H _ I h) fun u s1 ⟨x, H1, I1, rx, ex, q⟩ => ?_) ht
  subst ex
  obtain rfl : u = Value.ref C := rx
  refine PySem.W.method_cls I1.kIn r.ga (getst_ok I1 r c fun s2 I2 => ?_)
  refine PySem.W.callWith_K (h₀ := X.base) I2.ok.mod.kin c.kp (thn (ha.run pos pins s2 σ H1 _ I2 q) fun us s3 ⟨vs, H2, I3, rv, q2⟩ => ⟨I3.kIn, ?_⟩) hst hpl
  exact run_fnSD F hr hb hd (hx σ) I3 rv q2
end
section
variable {X : Cx} {CX : CXT} {n k : Nat} {f C : Addr} {fd : FuncData} {ps : List Str} {sp : Sp} {E : XK}
/-- str(x) by the class's own method -/
def rStrA (C : Addr) (sp : Sp) (E : XK) : List V → Hp → VK → Prop := fun vs H Q => ∃ x, vs = [x] ∧ IsC C x H ∧ sp [x] H (fun v H' => ∃ z, v = .str z ∧ Q (.str z) H') E
theorem str_own (hs : PySem.W.findIn X.K (.ref C) "__str__" = some (some (.ref f))) (hf : PySem.W.isFn X.K (.ref f) = true) (F : FnOk X.prog X.w X.K X.mg X.base CX n f fd ps sp) (hr : Room (n + 2) X.A) (hb : Binds X.K fd ps []) (hx : Passes CX X E) : CallR X (.type "str") (rStrA C sp E) := by
  intro pins s σ H vs us Q I r h
  obtain ⟨x, rfl, ⟨a, dx, fs, rfl, ha⟩, q⟩ := h
  obtain ⟨u, rfl, ru⟩ := vals1 r
  cases ru
  obtain ⟨mA, J, _⟩ := ins_get I.hok ha
  obtain ⟨od, J, _⟩ := J.look
  have z := run_any (Q := fun v H' => ∃ z, v = .str z ∧ Q (.str z) H') F hr.in1.in1 rfl hb hx I (v1r a) q
  refine PySem.W.kso_call hr.in1.in1.units0 I.kIn J hs hf (wpAny_mono z (fun v s' y => ?_) fun _ _ e => e)
  obtain ⟨v', H', I', ry, z, rfl, q'⟩ := y
  obtain ⟨t, rfl⟩ := ry
  exact ⟨.str z, H', I', ⟨_, rfl⟩, q'⟩
end
end Mo

namespace GQ
open PySem PySem.SeqAt
open AutoSeq1 (wpAny_loadPart')
open MeetsSeq MeetsSeq2 MeetsSeq3 SeqRoads2
section
variable {prog : Program} {w : World} {A : Around} {R : Result → Shared → Prop}
theorem tuple_ltG (l b : Addr) (items items2 : Array Value) (n n2 : Nat) (dd dd2 : Option Addr) (sl sl2 : Array (Option Value)) (I : List Value → List Value → Shared → Prop)
    (turn : ∀ (x : Value) (xs : List Value) (y : Value) (ys : List Value) (s : Shared), I (x :: xs) (y :: ys) s → wpAny (model prog w) A.in1 (eqBool x y) (fun r s' => (r = true ∧ I xs ys s') ∨
      (r = false ∧ wpAny (model prog w) A.in1 (richCompare .Lt x y) (fun v s'' => R (.ok (.ret v)) s'') (fun e s' => R (.error e) s') s')) (fun e s' => R (.error e) s') s)
    (fin : ∀ (xs ys : List Value) (s : Shared), (xs = [] ∨ ys = []) → I xs ys s → R (.ok (.ret (.bool (decide (xs.length < ys.length))))) s)
    {s : Shared} (hl1 : s.heap.get? l = some { cls := .type "tuple", dict := dd, data := .seq items n, slots := sl }) (hb1 : s.heap.get? b = some { cls := .type "tuple", dict := dd2, data := .seq items2 n2, slots := sl2 }) (h : I items.toList items2.toList s) :
    wpAny (model prog w) A.in1 (Builtin.«tuple.__lt__» ⟨[.ref l, .ref b], []⟩) (FinOf prog w A R) (fun e s' => R (.error e) s') s := by
  have f2 := AutoSeq1.sub_tuple_tuple
  have h0 := h
  obtain ⟨hp, g, d, tk, os⟩ := s
  wp_walk using wpAny_loadPart' hl1, wpAny_loadPart' hb1, wpAny_forIn_list _ (fun rest b s' => b.1 = none ∧ ∃ vs ws : List Value, rest = vs.zip ws ∧ vs.length + items2.size = ws.length + items.size ∧ I vs ws s') _
  case turn =>
    rintro ⟨y, x⟩ rest b s' ⟨hb', vs, ws, hz, hlen, hI⟩
    cases vs with
    | nil => rw [List.zip_nil_left] at hz; cases hz
    | cons v vs =>
      cases ws with
      | nil => rw [List.zip_nil_right] at hz; cases hz
      | cons z ws =>
        rw [List.zip_cons_cons] at hz
        injection hz with hyx hrest
        injection hyx with hy hx
        subst hy hx
        simp only [List.length_cons] at hlen
        refine wpAny_bind (wpAny_mono (turn _ _ _ _ s' hI) (fun r s2 q => ?_) fun _ _ x => x)
        rcases q with ⟨rfl, q⟩ | ⟨rfl, q⟩
        · wp_walk
          exact ⟨rfl, vs, ws, hrest, by omega, q⟩
        · repeat (first
            | (refine wpAny_bind (m := richCompare .Lt _ _) (wpAny_mono q (fun v s3 q3 => ?_) fun _ _ x => x))
            | wp_step)
          exact q3
  case fin =>
    rintro ⟨b1, b2⟩ s' ⟨hb', vs, ws, hz, hlen, hI⟩
    simp only at hb'
    subst hb'
    have e : vs = [] ∨ ws = [] := by
      cases vs with
      | nil => exact .inl rfl
      | cons v vs =>
        cases ws with
        | nil => exact .inr rfl
        | cons z ws => cases hz
    have hR := fin vs ws s' e hI
    have hv : decide (vs.length < ws.length) = decide (items.size < items2.size) := by
      congr 1
      exact propext (by omega)
    rw [hv] at hR
    wp_walk
    simpa [Builtin.Tuple.tupleCompareSizes] using hR
  case h =>
    exact ⟨rfl, items.toList, items2.toList, rfl, by simp [Nat.add_comm], h0⟩
end
section
variable {prog : Program} {w : World} {A : Around} {E : Value → Shared → Prop} {s : Shared}
theorem rc_ltG {l b : Addr} {items items2 : Array Value} {Q : Value → Shared → Prop} (hu : A.units < cLine) (I : List Value → List Value → Shared → Prop)
    (hl : s.heap.IsTuple l items) (hb : s.heap.IsTuple b items2)
    (turn : ∀ (x : Value) (xs : List Value) (y : Value) (ys : List Value) (s : Shared), I (x :: xs) (y :: ys) s → wpAny (model prog w) A.in1 (eqBool x y) (fun r s' => (r = true ∧ I xs ys s') ∨
      (r = false ∧ wpAny (model prog w) A.in1 (richCompare .Lt x y) (fun v s'' => v ≠ .notImplemented ∧ Q v s'') E s')) E s)
    (fin : ∀ (xs ys : List Value) (s : Shared), (xs = [] ∨ ys = []) → I xs ys s → Q (.bool (decide (xs.length < ys.length))) s) (h : I items.toList items2.toList s) : wpAny (model prog w) A (richCompare .Lt (.ref l) (.ref b)) Q E s := by
  obtain ⟨⟨cls, dd, data, sl⟩, ho, hc, n, hd⟩ := id hl
  obtain ⟨⟨cls2, dd2, data2, sl2⟩, ho2, hc2, n2, hd2⟩ := id hb
  simp only at hc hd hc2 hd2
  subst hc hd hc2 hd2
  refine wpAny_richCompare_same_room (op := .Lt) ⟨_, ho, rfl⟩ ⟨_, ho2, rfl⟩ F.slot_tuple_lt (call_here F.slot_tuple_lt ⟨_, ho, rfl⟩ F.entry_tuple_lt (F.args_tuple_lt_2 _ _) ?_) hu
  exact tuple_ltG (R := wants (fun v s' => v ≠ .notImplemented ∧ Q v s') E) l b items items2 n n2 dd dd2 sl sl2 I turn (fun xs ys s' e q => ⟨(fun x => nomatch x), fin xs ys s' e q⟩) ho ho2 h
end
end GQ
namespace Mo
open PySem PyProof.Rows L2
open Evl (Ex)
/-- the truth of x == y inside a built-in: D c x y H says that it is c -/
def EqB (X : Cx) (n : Nat) (D : Bool → V → V → Hp → Prop) : Prop :=
  ∀ (A : Around) (pins : List (Addr × Obj)) (s : Shared) (σ : L2.St) (H : Hp) (x y : V) (u v : Value) (c : Bool), Sub X n A → Inv X pins σ H s → RelV x u → RelV y v → D c x y H →
    wpAny (model X.prog X.w) A (eqBool u v) (fun r s' => r = c ∧ ∃ H', Inv X pins σ H' s' ∧ Ex H H') X.xe s
/-- x < y, a truth value -/
def LtB (X : Cx) (n : Nat) (D : Bool → V → V → Hp → Prop) : Prop :=
  ∀ (A : Around) (pins : List (Addr × Obj)) (s : Shared) (σ : L2.St) (H : Hp) (x y : V) (u v : Value) (c : Bool), Sub X n A → Inv X pins σ H s → RelV x u → RelV y v → D c x y H →
    wpAny (model X.prog X.w) A (richCompare .Lt u v) (fun r s' => r = .bool c ∧ ∃ H', Inv X pins σ H' s' ∧ Ex H H') X.xe s
def MonB (D : Bool → V → V → Hp → Prop) : Prop := ∀ c x y H H', Ex H H' → D c x y H → D c x y H'
/-- the order of tuples, item by item -/
inductive Lex (De Dl : Bool → V → V → Hp → Prop) (H : Hp) : Bool → List V → List V → Prop where
  | nil : Lex De Dl H false [] []
  | short {y : V} {ys : List V} : Lex De Dl H true [] (y :: ys)
  | long {x : V} {xs : List V} : Lex De Dl H false (x :: xs) []
  | same {c : Bool} {x y : V} {xs ys : List V} (h : De true x y H) (t : Lex De Dl H c xs ys) : Lex De Dl H c (x :: xs) (y :: ys)
  | diff {c : Bool} {x y : V} {xs ys : List V} (h : De false x y H) (t : Dl c x y H) : Lex De Dl H c (x :: xs) (y :: ys)
theorem Lex.ex {De Dl : Bool → V → V → Hp → Prop} (me : MonB De) (ml : MonB Dl) {H H' : Hp} (e : Ex H H') {c : Bool} {xs ys : List V} (h : Lex De Dl H c xs ys) : Lex De Dl H' c xs ys := by
  induction h with
  | nil => exact .nil
  | short => exact .short
  | long => exact .long
  | same h t ih => exact .same (me _ _ _ _ _ e h) ih
  | diff h t => exact .diff (me _ _ _ _ _ e h) (ml _ _ _ _ _ e t)
def rLtG (K : PySem.W.Frag) (De Dl : Bool → V → V → Hp → Prop) : R2 := fun x y H Q => ∃ (a b : Addr) (xs ys : List V) (c : Bool), x = .ref a ∧ y = .ref b ∧ SqT K H a xs ∧ SqT K H b ys ∧ Lex De Dl H c xs ys ∧ ∀ H', Ex H H' → Q (.bl c) H'
theorem op_ltG {X : Cx} {n : Nat} {De Dl : Bool → V → V → Hp → Prop} (hr : Room (n + 1) X.A) (me : MonB De) (ml : MonB Dl) (he : EqB X n De) (hl : LtB X n Dl) : OpR X (compareOp .Lt) (rLtG X.K De Dl) := by
  intro pins s σ H x y v u Q I rx ry h
  obtain ⟨a, b, xs, ys, c, rfl, rfl, ha, hb, hx, q⟩ := h
  cases rx
  cases ry
  obtain ⟨its, r1, p1, _⟩ := I.tuple ha
  obtain ⟨its2, r2, p2, _⟩ := I.tuple hb
  show wpAny _ _ (richCompare .Lt _ _) _ _ _
  have sb : Sub X n X.A.in1 := ⟨hr.in1, rfl⟩
  refine GQ.rc_ltG (hr.units0) (fun us vs s' => ∃ (xs ys : List V) (H' : Hp), Vals xs us ∧ Vals ys vs ∧ Inv X pins σ H' s' ∧ Ex H H' ∧ Lex De Dl H' c xs ys) p1 p2 ?_ ?_ ⟨xs, ys, H, r1, r2, I, Ex.refl _, hx⟩
  · rintro u us v vs s1 ⟨xs, ys, H1, v1, v2, I1, e1, L⟩
    cases v1 with
    | @cons x _ xs _ ra ta =>
      cases v2 with
      | @cons y _ ys _ rb tb =>
        cases L with
        | same h t =>
          refine wpAny_mono (he X.A.in1 pins s1 σ H1 x y u v true sb I1 ra rb h) (fun r s2 z => ?_) fun _ _ z => z
          obtain ⟨rfl, H2, I2, e2⟩ := z
          exact .inl ⟨rfl, xs, ys, H2, ta, tb, I2, e1.trans e2, t.ex me ml e2⟩
        | diff h t =>
          refine wpAny_mono (he X.A.in1 pins s1 σ H1 x y u v false sb I1 ra rb h) (fun r s2 z => ?_) fun _ _ z => z
          obtain ⟨rfl, H2, I2, e2⟩ := z
          refine .inr ⟨rfl, wpAny_mono (hl X.A.in1 pins s2 σ H2 x y u v c sb I2 ra rb (ml _ _ _ _ _ e2 t)) (fun r s3 z => ?_) fun _ _ z => z⟩
          obtain ⟨rfl, H3, I3, e3⟩ := z
          exact ⟨(fun z => nomatch z), .bl c, H3, I3, rfl, q H3 ((e1.trans e2).trans e3)⟩
  · rintro us vs s1 hn ⟨xs, ys, H1, v1, v2, I1, e1, L⟩
    have lx := v1.length
    have ly := v2.length
    have hc : decide (us.length < vs.length) = c := by
      rw [← lx, ← ly]
      cases L with
      | nil => rfl
      | short => simp
      | long => simp
      | same h t => rcases hn with z | z <;> (subst z; simp at lx ly)
      | diff h t => rcases hn with z | z <;> (subst z; simp at lx ly)
    rw [hc]
    exact ⟨.bl c, H1, I1, rfl, q H1 e1⟩
end Mo

namespace L2
open PySem PySem.Spec PyProof.Rows
section
variable {X : Cx} {pins : List (Addr × Obj)} {σ : St} {H : Hp} {s : Shared} {a b : Addr} {r : Value} {d : V} {k : List Key} {A : Around} {E : Value → Shared → Prop}
theorem d_setdT {kvs : List (List Key × V)} {Q : Value → Shared → Prop} (hu : A.units + 1 < cLine) (I : Inv X pins σ H s) (e : H a = some (.dT kvs)) (eb : H b = some (.tup (k.map kV))) (rd : RelV d r) (hl : kvs.length < sizeLine)
    (h1 : ∀ v, valV kvs k = some v → ∀ (w' : Value) (s' : Shared), Inv X pins σ H s' → RelV v w' → Q w' s') (h2 : valV kvs k = none → ∀ (w' : Value) (s' : Shared), Inv X pins σ (upd H a (.dT (putK kvs k d))) s' → RelV d w' → Q w' s') :
    wpAny (model X.prog X.w) A (call (.builtin "dict.setdefault") [.ref a, .ref b, r]) Q E s := by
  obtain ⟨z, hd, xs, rel, dd⟩ := dt_of I.hok e
  have hz : xs.length ≤ sizeLine := by rw [← Paired.length rel]; exact z
  have q := rel.val k
  refine call_setdefault_heap (hsz := hz) (tupleKind_room_in1 hu) (key_of I.hok eb) hd dd (fun p hp => ?_) (fun hn h' dd' hs => ?_)
  · rw [hp] at q
    cases q0 : valV kvs k with
    | none =>
      rw [q0] at q
      exact (show False from q).elim
    | some v0 =>
      rw [q0] at q
      exact h1 v0 q0 _ _ (I.tok _) q
  · rw [hn] at q
    cases q0 : valV kvs k with
    | some v0 =>
      rw [q0] at q
      exact (show False from q).elim
    | none =>
      have hl2 : (putK kvs k d).length ≤ sizeLine := by
        have := length_putK kvs k d
        omega
      obtain ⟨qq, es, ep, hq, g2, g3, g4, _, g5⟩ := dd'
      refine h2 q0 _ _ (d_write I (by rw [e]; exact True.intro) hs ⟨qq, hq⟩ ⟨hl2, hd, _, (rel.put k eb rd).keeps fun c ys ec => ?_, qq, es, ep, hq, g2, g3, g4, g5⟩) rd
      rw [upd_ne (ne_of ec e (fun z => nomatch z))]
      exact ec
end
/-- d.setdefault(y, z), y a tuple -/
def tDSetdT (td ty tx : TE) : TE := fun σ H Q => td σ H fun x H1 => ∃ a, x = .ref a ∧ IsD H1 a ∧ ty σ H1 fun y H2 => tx σ H2 fun z H3 => ∃ (kvs : List (List Key × V)) (k : List Key) (b : Addr), H3 a = some (.dT kvs) ∧ y = .ref b ∧ H3 b = some (.tup (k.map kV)) ∧ kvs.length < sizeLine ∧
  (∀ v, valV kvs k = some v → Q v H3) ∧ (valV kvs k = none → Q z (upd H3 a (.dT (putK kvs k z))))
section
variable {X : Cx} {o e f : Expr} {td ty tx : TE} {apos cpos : Pos}
theorem pe_dsetdT (hu : X.A.units + 1 < cLine) (ho : PE X o td) (he : PE X e ty) (hf : PE X f tx) (m : M2 X o "setdefault" apos e f cpos) : PE X (.Call (.Attribute o "setdefault" apos) [e, f] [] cpos) (tDSetdT td ty tx) := by
  refine ⟨fun pins s σ H Q I h => ?_⟩
  refine wpAny_Call_method m.base m.few m.line PySem.F.plainAttrs_dict PySem.F.slot_dict_setdefault PySem.F.type_dict_setdefault (thn (ho.run pins s σ H _ I h) fun u s1 ⟨x, H1, I1, rx, a, ex, d, q1⟩ => ?_)
  subst ex
  obtain rfl : u = Value.ref a := rx
  obtain ⟨t1, t2, _⟩ := isD_at I1 d
  refine ⟨t1, t2, ?_⟩
  rw [m.trees]
  refine Calls.callWith_builtin rfl (Calls.evalArgs_plain (Calls.spliced_cons (thn (he.run pins s1 σ H1 _ I1 q1) fun iv s2 ⟨y, H2, I2, ry, q2⟩ =>
    Calls.spliced_cons (thn (hf.run pins s2 σ H2 _ I2 q2) fun fv s3 ⟨z, H3, I3, rz, kvs, k, b, ea, ey, eb, hl, q3, q4⟩ => Calls.spliced_nil ?_))))
  subst ey
  cases (show iv = Value.ref b from ry)
  exact d_setdT hu I3 ea eb rz hl (fun v hv w' s4 I4 rw' => ⟨v, _, I4, rw', q3 v hv⟩) fun hn w' s4 I4 rw' => ⟨z, _, I4, rw', q4 hn⟩
end
end L2

namespace Mo
open PySem PyProof.Rows L2
open Evl (Ex)
/-! ### times in units of 1/U -/
structure Un (U : Int) : Prop where
  pos : 0 < U
  sm : Sm 390 U
/-- a moment or an int, n/U -/
def TU (C : Addr) (U n : Int) (v : V) (H : Hp) : Prop := (∃ t b : Int, Norm n U t b ∧ Tm C t b v H) ∧ Sm 390 n
/-- a moment, n/U -/
def MU (C : Addr) (U n : Int) (v : V) (H : Hp) : Prop := (∃ t b : Int, Norm n U t b ∧ Mo C t b v H) ∧ Sm 390 n
theorem MU.tu {C : Addr} {U n : Int} {v : V} {H : Hp} (h : MU C U n v H) : TU C U n v H := by
  obtain ⟨⟨t, b, N, m⟩, s⟩ := h
  exact ⟨⟨t, b, N, .inl m⟩, s⟩
theorem MU.ex {C : Addr} {U n : Int} {v : V} {H H' : Hp} (h : MU C U n v H) (e : Ex H H') : MU C U n v H' := by
  obtain ⟨⟨t, b, N, m⟩, s⟩ := h
  exact ⟨⟨t, b, N, m.ex e⟩, s⟩
theorem TU.ex {C : Addr} {U n : Int} {v : V} {H H' : Hp} (h : TU C U n v H) (e : Ex H H') : TU C U n v H' := by
  obtain ⟨⟨t, b, N, m⟩, s⟩ := h
  exact ⟨⟨t, b, N, m.ex e⟩, s⟩
theorem MU.isC {C : Addr} {U n : Int} {v : V} {H : Hp} (h : MU C U n v H) : IsC C v H := by
  obtain ⟨⟨t, b, N, m⟩, s⟩ := h
  exact m.isC
theorem MU.par {C : Addr} {U n : Int} {v : V} {H : Hp} (h : MU C U n v H) : Par C H v := by
  obtain ⟨⟨t, b, N, m⟩, s⟩ := h
  exact m.par
theorem TU.par {C : Addr} {U n : Int} {v : V} {H : Hp} (h : TU C U n v H) : Par C H v := by
  obtain ⟨⟨t, b, N, m⟩, s⟩ := h
  exact m.par
theorem TU.op {C : Addr} {U n : Int} {v : V} {H : Hp} (h : TU C U n v H) : IsC C v H ∨ ∃ i, v = .int i := by
  obtain ⟨⟨t, b, N, m⟩, s⟩ := h
  exact m.op
theorem norm_of {t b n U : Int} (hU : 0 < U) (hr : Red t b) (e : t * U = n * b) : Norm n U t b := by
  have N := norm_mk (n := n) (d := U) (by omega)
  have e2 : t * (U.fdiv (sg n U)) = (n.fdiv (sg n U)) * b := by
    have h1 := N.eq
    have h2 := e
    exact Int.eq_of_mul_eq_mul_left (Int.ne_of_gt hU) (by grind)
  obtain ⟨h1, h2⟩ := red_eq hr N.red e2
  rw [h1, h2]
  exact N
theorem tu_int {C : Addr} {U k : Int} {H : Hp} (hU : Un U) (s : Sm 390 (k * U)) : TU C U (k * U) (.int k) H :=
  ⟨⟨k, 1, norm_of hU.pos (red_one k) (by rw [Int.mul_one]), .inr ⟨rfl, rfl⟩⟩, s⟩
/-- two fractions over U -/
theorem norm_lt {n m U t b t' b' : Int} (N : Norm n U t b) (N' : Norm m U t' b') (hU : 0 < U) : t * b' < t' * b ↔ n < m := by
  have h1 := N.eq
  have h2 := N'.eq
  have p1 := N.pos
  have p2 := N'.pos
  have e1 : (t * b') * U = n * (b * b') := by grind
  have e2 : (t' * b) * U = m * (b * b') := by grind
  have pb : 0 < b * b' := Int.mul_pos p1 p2
  constructor
  · intro z
    have := Int.mul_lt_mul_of_pos_right z hU
    rw [e1, e2] at this
    exact Int.lt_of_mul_lt_mul_right this (Int.le_of_lt pb)
  · intro z
    have := Int.mul_lt_mul_of_pos_right z pb
    rw [← e1, ← e2] at this
    exact Int.lt_of_mul_lt_mul_right this (Int.le_of_lt hU)
theorem norm_eq {n m U t b t' b' : Int} (N : Norm n U t b) (N' : Norm m U t' b') (hU : 0 < U) : (t = t' ∧ b = b') ↔ n = m := by
  constructor
  · rintro ⟨rfl, rfl⟩
    have h1 := N.eq
    have h2 := N'.eq
    exact Int.eq_of_mul_eq_mul_right (Int.ne_of_gt N.pos) (h1.symm.trans h2)
  · rintro rfl
    refine red_eq N.red N'.red ?_
    have h1 := N.eq
    have h2 := N'.eq
    exact Int.eq_of_mul_eq_mul_left (Int.ne_of_gt hU) (by grind)
theorem norm_add {n m U t b t' b' t2 b2 : Int} (N : Norm n U t b) (N' : Norm m U t' b') (hU : 0 < U) (M : Norm (nAdd t b t' b') (dAll t b t' b') t2 b2) : Norm (n + m) U t2 b2 := by
  refine norm_of hU M.red ?_
  have h := add_eq M N.eq N'.eq N.pos N'.pos
  exact Int.eq_of_mul_eq_mul_left (Int.ne_of_gt hU) (by grind)
theorem norm_sub {n m U t b t' b' t2 b2 : Int} (N : Norm n U t b) (N' : Norm m U t' b') (hU : 0 < U) (M : Norm (nSub t b t' b') (dAll t b t' b') t2 b2) : Norm (n - m) U t2 b2 := by
  refine norm_of hU M.red ?_
  have h := sub_eq M N.eq N'.eq N.pos N'.pos
  exact Int.eq_of_mul_eq_mul_left (Int.ne_of_gt hU) (by grind)
theorem norm_muli {n k U t b t2 b2 : Int} (N : Norm n U t b) (hU : 0 < U) (M : Norm (nMul t b k 1) (dAll t b k 1) t2 b2) : Norm (n * k) U t2 b2 := by
  refine norm_of hU M.red ?_
  have h : t2 * (b * 1) = (t * k) * b2 := M.eq
  have h1 := N.eq
  exact Int.eq_of_mul_eq_mul_left (Int.ne_of_gt N.pos) (by grind)
theorem norm_neg {n U t b t2 b2 : Int} (N : Norm n U t b) (hU : 0 < U) (M : Norm (-t) b t2 b2) : Norm (-n) U t2 b2 := by
  refine norm_of hU M.red ?_
  have h := M.eq
  have h1 := N.eq
  exact Int.eq_of_mul_eq_mul_left (Int.ne_of_gt N.pos) (by grind)
theorem norm_floor {n m U t b t' b' : Int} (N : Norm n U t b) (N' : Norm m U t' b') (hU : 0 < U) : (t * b').fdiv (b * t') = n.fdiv m := by
  rw [floor_same N.eq N'.eq N.pos N'.pos (Int.ne_of_gt hU) (Int.ne_of_gt hU), Int.mul_comm n U, Int.mul_fdiv_mul_of_pos _ _ hU]
theorem norm_rest {n m U t b t' b' t2 b2 : Int} (N : Norm n U t b) (N' : Norm m U t' b') (hU : 0 < U) (r : Red t2 b2) (e : t2 * (b * b') = (t * b' - (t * b').fdiv (b * t') * t' * b) * b2) : Norm (n - n.fdiv m * m) U t2 b2 := by
  rw [norm_floor N N' hU] at e
  refine norm_of hU r ?_
  have h1 := N.eq
  have h2 := N'.eq
  generalize n.fdiv m = q at *
  have pb : 0 < b * b' := Int.mul_pos N.pos N'.pos
  exact Int.eq_of_mul_eq_mul_left (Int.ne_of_gt pb) (by grind)
theorem norm_over {n k U t b t2 b2 : Int} (N : Norm (n * k) U t b) (hU : 0 < U) (hk : 0 < k) (M : Norm (t * 1) (b * k) t2 b2) : Norm n U t2 b2 := by
  refine norm_of hU M.red ?_
  have h := M.eq
  have h1 := N.eq
  have pb : 0 < b * k := Int.mul_pos N.pos hk
  exact Int.eq_of_mul_eq_mul_left (Int.ne_of_gt pb) (by grind)
theorem norm_zero {n U t b : Int} (N : Norm n U t b) (hU : 0 < U) : t = 0 ↔ n = 0 := zero_iff N.eq N.pos (Int.ne_of_gt hU)
section
variable {C : Addr} {U n m : Int} {x y : V} {H : Hp} {Q : VK} {E : XK}
theorem sz {t b : Int} (hU : Un U) (N : Norm n U t b) (s : Sm 390 n) : Sm 1900 t ∧ Sm 1900 b := ⟨(N.st s).mono (by decide), (N.sb hU.sm).mono (by decide)⟩
theorem add_rd (hU : Un U) (hx : MU C U n x H) (hy : TU C U m y H) (s : Sm 390 (n + m)) (k : ∀ (v : V) (H' : Hp), Ex H H' → MU C U (n + m) v H' → Q v H') : rOwn C (spBin C nAdd dAll) E x y H Q := by
  obtain ⟨⟨t, b, N, mx⟩, sx⟩ := hx
  obtain ⟨⟨t', b', N', my⟩, sy⟩ := hy
  exact ⟨mx.isC, my.op, x, y, t, b, t', b', rfl, mx, my, N.pos, N'.pos, (sz hU N sx).1, (sz hU N sx).2, (sz hU N' sy).1, (sz hU N' sy).2, fun t2 b2 v H' M e mv => k v H' e ⟨⟨t2, b2, norm_add N N' hU.pos M, mv⟩, s⟩⟩
theorem sub_rd (hU : Un U) (hx : MU C U n x H) (hy : TU C U m y H) (s : Sm 390 (n - m)) (k : ∀ (v : V) (H' : Hp), Ex H H' → MU C U (n - m) v H' → Q v H') : rOwn C (spBin C nSub dAll) E x y H Q := by
  obtain ⟨⟨t, b, N, mx⟩, sx⟩ := hx
  obtain ⟨⟨t', b', N', my⟩, sy⟩ := hy
  exact ⟨mx.isC, my.op, x, y, t, b, t', b', rfl, mx, my, N.pos, N'.pos, (sz hU N sx).1, (sz hU N sx).2, (sz hU N' sy).1, (sz hU N' sy).2, fun t2 b2 v H' M e mv => k v H' e ⟨⟨t2, b2, norm_sub N N' hU.pos M, mv⟩, s⟩⟩
theorem mul_rd {i : Int} (hU : Un U) (hx : MU C U n x H) (si : Sm 390 i) (s : Sm 390 (n * i)) (k : ∀ (v : V) (H' : Hp), Ex H H' → MU C U (n * i) v H' → Q v H') : rOwn C (spBin C nMul dAll) E x (.int i) H Q := by
  obtain ⟨⟨t, b, N, mx⟩, sx⟩ := hx
  exact ⟨mx.isC, .inr ⟨i, rfl⟩, x, _, t, b, i, 1, rfl, mx, .inr ⟨rfl, rfl⟩, N.pos, by decide, (sz hU N sx).1, (sz hU N sx).2, si.mono (by decide), (sml (n := 1) (k := 2) (by decide)).mono (by decide), fun t2 b2 v H' M e mv => k v H' e ⟨⟨t2, b2, norm_muli N hU.pos M, mv⟩, s⟩⟩
theorem floor_rd (hU : Un U) (hx : MU C U n x H) (hy : TU C U m y H) (hm : m ≠ 0) (k : ∀ H' : Hp, Ex H H' → Q (.int (n.fdiv m)) H') : rOwn C (spFloor C) E x y H Q := by
  obtain ⟨⟨t, b, N, mx⟩, sx⟩ := hx
  obtain ⟨⟨t', b', N', my⟩, sy⟩ := hy
  exact ⟨mx.isC, my.op, x, y, t, b, t', b', rfl, mx, my, N.pos, N'.pos, (sz hU N sx).1, (sz hU N sx).2, (sz hU N' sy).1, (sz hU N' sy).2, fun z => absurd ((norm_zero N' hU.pos).mp z) hm, fun _ H' e => by
    rw [norm_floor N N' hU.pos]
    exact k H' e⟩
theorem neg_rd (hU : Un U) (hx : MU C U n x H) (k : ∀ (v : V) (H' : Hp), Ex H H' → MU C U (-n) v H' → Q v H') : rOne C (spNeg C) E x H Q := by
  obtain ⟨⟨t, b, N, mx⟩, sx⟩ := hx
  exact ⟨mx.isC, x, t, b, rfl, mx, N.pos, (sz hU N sx).1, (sz hU N sx).2, fun t2 b2 v H' M e mv => k v H' e ⟨⟨t2, b2, norm_neg N hU.pos M, mv⟩, sx.neg⟩⟩
theorem cmp_rd {g : Int → Int → Bool} {h : Int → Int → Prop} [∀ i j, Decidable (h i j)] (hg : ∀ i j, g i j = decide (h i j)) (hh : ∀ {t b t' b' : Int}, Norm n U t b → Norm m U t' b' → (h (t * b') (t' * b) ↔ h n m)) (hU : Un U) (hx : MU C U n x H) (hy : TU C U m y H)
    (k : ∀ H' : Hp, Ex H H' → Q (.bl (decide (h n m))) H') : rCmp C (spCmp C g) E x y H Q := by
  obtain ⟨⟨t, b, N, mx⟩, sx⟩ := hx
  obtain ⟨⟨t', b', N', my⟩, sy⟩ := hy
  refine ⟨mx.isC, my.par, x, y, t, b, t', b', rfl, mx, my, (sz hU N sx).1, (sz hU N sx).2, (sz hU N' sy).1, (sz hU N' sy).2, fun H' e => ?_⟩
  rw [hg, show decide (h (t * b') (t' * b)) = decide (h n m) from decide_eq_decide.mpr (hh N N')]
  exact k H' e
theorem lt_rd (hU : Un U) (hx : MU C U n x H) (hy : TU C U m y H) (k : ∀ H' : Hp, Ex H H' → Q (.bl (decide (n < m))) H') : rCmp C (spCmp C gLt) E x y H Q :=
  cmp_rd (h := fun i j => i < j) (fun _ _ => rfl) (fun N N' => norm_lt N N' hU.pos) hU hx hy k
theorem le_rd (hU : Un U) (hx : MU C U n x H) (hy : TU C U m y H) (k : ∀ H' : Hp, Ex H H' → Q (.bl (decide (n ≤ m))) H') : rCmp C (spCmp C gLe) E x y H Q :=
  cmp_rd (h := fun i j => i ≤ j) (fun _ _ => rfl) (fun N N' => by rw [← Int.not_lt, ← Int.not_lt, norm_lt N' N hU.pos]) hU hx hy k
theorem ge_rd (hU : Un U) (hx : MU C U n x H) (hy : TU C U m y H) (k : ∀ H' : Hp, Ex H H' → Q (.bl (decide (m ≤ n))) H') : rCmp C (spCmp C gGe) E x y H Q :=
  cmp_rd (h := fun i j => j ≤ i) (fun _ _ => rfl) (fun N N' => by rw [← Int.not_lt, ← Int.not_lt, norm_lt N N' hU.pos]) hU hx hy k
end
end Mo

namespace Mo
open PySem PyProof.Rows L2
open Evl (Ex)
section
variable {X : Cx} {C fE fL : Addr} {dE dL : FuncData} {nE nL : Nat}
/-- two moments, or two ints: equal or not -/
def DeM (C : Addr) : Bool → V → V → Hp → Prop := fun c x y H => (∃ i j : Int, x = .int i ∧ y = .int j ∧ c = decide (i = j)) ∨ ∃ t b t' b' : Int, Mo C t b x H ∧ Mo C t' b' y H ∧ (c = true ↔ t = t' ∧ b = b')
/-- .. the first less or not -/
def DlM (C : Addr) : Bool → V → V → Hp → Prop := fun c x y H => (∃ i j : Int, x = .int i ∧ y = .int j ∧ c = decide (i < j)) ∨ ∃ t b t' b' : Int, Mo C t b x H ∧ Mo C t' b' y H ∧ Sm 1900 t ∧ Sm 1900 b ∧ Sm 1900 t' ∧ Sm 1900 b' ∧ c = decide (t * b' < t' * b)
theorem mon_DeM {C : Addr} : MonB (DeM C) := fun c x y H H' e d => by
  rcases d with d | ⟨t, b, t', b', h1, h2, h3⟩
  · exact .inl d
  · exact .inr ⟨t, b, t', b', h1.ex e, h2.ex e, h3⟩
theorem mon_DlM {C : Addr} : MonB (DlM C) := fun c x y H H' e d => by
  rcases d with d | ⟨t, b, t', b', h1, h2, h3⟩
  · exact .inl d
  · exact .inr ⟨t, b, t', b', h1.ex e, h2.ex e, h3⟩
theorem eqB_M (GE : FnOk X.prog X.w X.K X.mg X.base CX0 nE fE dE ["self", "other"] (spEq2 C)) (hs : PySem.W.findIn X.K (.ref C) "__eq__" = some (some (.ref fE))) (hf : PySem.W.isFn X.K (.ref fE) = true) (hb : Binds X.K dE ["self", "other"] []) : EqB X nE (DeM C) := by
  intro A pins s σ H x y u v c sb I rx ry d
  rcases d with ⟨i, j, rfl, rfl, rfl⟩ | ⟨t, b, t', b', hx, hy, hc⟩
  · have q := eqAt_V (A := A) (s := s) rx ry rfl rfl
    have e : eqV (.int i) (.int j) = decide (i = j) := by
      rw [Bool.eq_iff_iff]
      simp [eqV]
    rw [e] at q
    exact q X.prog X.w X.xe _ ⟨rfl, H, I, Ex.refl _⟩
  · have ix := hx.isC
    have py := hy.par
    obtain ⟨a, dx, rfl, ea⟩ := id hx
    obtain ⟨a', dx', rfl, ea'⟩ := id hy
    cases rx
    cases ry
    by_cases hab : a = a'
    · subst hab
      have cc : c = true := by
        rw [ea] at ea'
        injection ea' with q
        injection q with _ _ q
        rw [mf_eq, mf_eq] at q
        injection q with q1 q2
        injection q2 with q2 _
        injection q1 with _ q1
        injection q2 with _ q2
        injection q1 with q1
        injection q2 with q2
        exact hc.mpr ⟨q1, q2⟩
      subst cc
      exact SeqAt.EqAt.same (A := A) (s := s) (.ref a) X.prog X.w X.xe _ ⟨rfl, H, I, Ex.refl _⟩
    · refine GQ.eqBool_refG hab ?_
      obtain ⟨mA, J, _⟩ := ins_get I.hok ea
      obtain ⟨od, J, _⟩ := J.look
      obtain ⟨mB, J', _⟩ := ins_get I.hok ea'
      obtain ⟨od', J', _⟩ := J'.look
      have run := run_any (Q := fun r H' => r = .bl c ∧ Ex H H') GE sb.room sb.fr hb pass0 I (v2rr a a') ⟨_, _, t, b, rfl, hx, .inl ⟨t', b', hy, fun k H' e hk => ⟨by rw [Bool.eq_iff_iff.mpr (hk.trans hc.symm)], e⟩⟩⟩
      refine cmpL_K sb.room.units0 I.kIn J J'.type notFirstC (tryCmp_K I.kIn J hs hf (wpAny_mono run (fun r s' z => ?_) fun _ _ z => z))
      obtain ⟨r', H', I', rr, rfl, e⟩ := z
      cases rr
      exact ⟨c, rfl, rfl, H', I', e⟩
theorem ltB_M (GL : FnOk X.prog X.w X.K X.mg X.base CX0 nL fL dL ["self", "other"] (spCmp C gLt)) (hs : PySem.W.findIn X.K (.ref C) "__lt__" = some (some (.ref fL))) (hf : PySem.W.isFn X.K (.ref fL) = true) (hb : Binds X.K dL ["self", "other"] []) : LtB X nL (DlM C) := by
  intro A pins s σ H x y u v c sb I rx ry d
  rcases d with ⟨i, j, rfl, rfl, rfl⟩ | ⟨t, b, t', b', hx, hy, s1, s2, s3, s4, hc⟩
  · obtain ⟨ti, rfl⟩ := rx
    obtain ⟨tj, rfl⟩ := ry
    exact HT.rcLt_int _ _ _ _ _ _ _ _ _ _ ⟨rfl, H, I, Ex.refl _⟩
  · obtain ⟨a, dx, rfl, ea⟩ := id hx
    obtain ⟨a', dx', rfl, ea'⟩ := id hy
    cases rx
    cases ry
    obtain ⟨mA, J, _⟩ := ins_get I.hok ea
    obtain ⟨od, J, _⟩ := J.look
    obtain ⟨mB, J', _⟩ := ins_get I.hok ea'
    obtain ⟨od', J', _⟩ := J'.look
    have run := run_any (Q := fun r H' => r = .bl c ∧ Ex H H') GL sb.room sb.fr hb pass0 I (v2rr a a') ⟨_, _, t, b, t', b', rfl, hx, .inl hy, s1, s2, s3, s4, fun H' e => ⟨by rw [hc]; rfl, e⟩⟩
    refine cmpL_K sb.room.units0 I.kIn J J'.type notFirstC (tryCmp_K I.kIn J hs hf (wpAny_mono run (fun r s' z => ?_) fun _ _ z => z))
    obtain ⟨r', H', I', rr, rfl, e⟩ := z
    cases rr
    exact ⟨rfl, H', I', e⟩
end
/-! ### tuples of times and ints -/
/-- one item: a time n/U (k true), or the int n -/
def ItU (C : Addr) (U : Int) (k : Bool) (n : Int) (v : V) (H : Hp) : Prop := if k = true then MU C U n v H else v = .int n
theorem ItU.ex {C : Addr} {U : Int} {k : Bool} {n : Int} {v : V} {H H' : Hp} (h : ItU C U k n v H) (e : Ex H H') : ItU C U k n v H' := by
  unfold ItU at *
  split
  · rename_i q
    rw [if_pos q] at h
    exact h.ex e
  · rename_i q
    rw [if_neg q] at h
    exact h
inductive ItsU (C : Addr) (U : Int) (H : Hp) : List Bool → List Int → List V → Prop where
  | nil : ItsU C U H [] [] []
  | cons {k : Bool} {n : Int} {v : V} {ks : List Bool} {ns : List Int} {vs : List V} (h : ItU C U k n v H) (t : ItsU C U H ks ns vs) : ItsU C U H (k :: ks) (n :: ns) (v :: vs)
theorem ItsU.ex {C : Addr} {U : Int} {H H' : Hp} {ks : List Bool} {ns : List Int} {vs : List V} (h : ItsU C U H ks ns vs) (e : Ex H H') : ItsU C U H' ks ns vs := by
  induction h with
  | nil => exact .nil
  | cons h t ih => exact .cons (h.ex e) ih
/-- a tuple of such -/
def TuU (C : Addr) (U : Int) (ks : List Bool) (ns : List Int) (v : V) (H : Hp) : Prop := ∃ (p : Addr) (vs : List V), v = .ref p ∧ H p = some (.tup vs) ∧ ItsU C U H ks ns vs
theorem TuU.ex {C : Addr} {U : Int} {ks : List Bool} {ns : List Int} {v : V} {H H' : Hp} (h : TuU C U ks ns v H) (e : Ex H H') : TuU C U ks ns v H' := by
  obtain ⟨p, vs, e1, e2, h⟩ := h
  exact ⟨p, vs, e1, e _ _ e2, h.ex e⟩
theorem lex_its {C : Addr} {U : Int} (hU : Un U) {H : Hp} : ∀ {ks : List Bool} {ns ms : List Int} {vs ws : List V}, ItsU C U H ks ns vs → ItsU C U H ks ms ws → Lex (DeM C) (DlM C) H (HT.lexLt ns ms) vs ws
  | [], _, _, _, _, .nil, .nil => .nil
  | k :: ks, n :: ns, m :: ms, _, _, .cons (v := x) h t, .cons (v := y) h' t' => by
    have de : DeM C (decide (n = m)) x y H := by
      unfold ItU at h h'
      by_cases q : k = true
      · rw [if_pos q] at h h'
        obtain ⟨⟨a, b, N, mx⟩, sx⟩ := h
        obtain ⟨⟨a', b', N', my⟩, sy⟩ := h'
        exact .inr ⟨a, b, a', b', mx, my, by rw [decide_eq_true_eq, norm_eq N N' hU.pos]⟩
      · rw [if_neg q] at h h'
        exact .inl ⟨n, m, h, h', rfl⟩
    have dl : DlM C (decide (n < m)) x y H := by
      unfold ItU at h h'
      by_cases q : k = true
      · rw [if_pos q] at h h'
        obtain ⟨⟨a, b, N, mx⟩, sx⟩ := h
        obtain ⟨⟨a', b', N', my⟩, sy⟩ := h'
        exact .inr ⟨a, b, a', b', mx, my, (sz hU N sx).1, (sz hU N sx).2, (sz hU N' sy).1, (sz hU N' sy).2, (decide_eq_decide.mpr (norm_lt N N' hU.pos)).symm⟩
      · rw [if_neg q] at h h'
        exact .inl ⟨n, m, h, h', rfl⟩
    rw [HT.lexLt_cons]
    by_cases e : n = m
    · rw [if_pos e]
      rw [decide_eq_true e] at de
      exact .same de (lex_its hU t t')
    · rw [if_neg e]
      rw [decide_eq_false e] at de
      exact .diff de dl
/-- t < u, tuples of times and ints -/
theorem ltT_rd {C : Addr} {U : Int} {K : PySem.W.Frag} {ks : List Bool} {ns ms : List Int} {x y : V} {H : Hp} {Q : VK} (hU : Un U) (hx : TuU C U ks ns x H) (hy : TuU C U ks ms y H) (k : ∀ H', Ex H H' → Q (.bl (HT.lexLt ns ms)) H') : rLtG K (DeM C) (DlM C) x y H Q := by
  obtain ⟨p, vs, rfl, ep, hv⟩ := hx
  obtain ⟨q, ws, rfl, eq, hw⟩ := hy
  exact ⟨p, q, vs, ws, _, rfl, rfl, SqT.of ep, SqT.of eq, lex_its hU hv hw, k⟩
/-! ### what a store into a list leaves -/
/-- instances and tuples stay -/
def St (H H' : Hp) : Prop := ∀ (a : Addr) (o : HO), H a = some o → ((∃ C dx fs, o = .ins C dx fs) ∨ ∃ xs, o = .tup xs) → H' a = some o
theorem St.of {H H' : Hp} (e : Ex H H') : St H H' := fun a o h _ => e a o h
theorem St.trans {H H' H2 : Hp} (a : St H H') (b : St H' H2) : St H H2 := fun p o h q => b p o (a p o h q) q
theorem St.lst {H : Hp} {l : Addr} {xs : List V} {o : HO} (h : H l = some (.lst xs)) : St H (upd H l o) := fun a u e q => by
  have : a ≠ l := fun z => by
    subst z
    rw [h] at e
    cases e
    rcases q with ⟨C, dx, fs, z⟩ | ⟨xs, z⟩ <;> cases z
  rw [upd_ne this]
  exact e
theorem St.new {H : Hp} {l : Addr} {o : HO} (h : H l = none) : St H (upd H l o) := .of (Ex.new h)
theorem MU.st {C : Addr} {U n : Int} {v : V} {H H' : Hp} (h : MU C U n v H) (e : St H H') : MU C U n v H' := by
  obtain ⟨⟨t, b, N, a, dx, rfl, m⟩, s⟩ := h
  exact ⟨⟨t, b, N, a, dx, rfl, e _ _ m (.inl ⟨_, _, _, rfl⟩)⟩, s⟩
theorem ItU.st {C : Addr} {U : Int} {k : Bool} {n : Int} {v : V} {H H' : Hp} (h : ItU C U k n v H) (e : St H H') : ItU C U k n v H' := by
  unfold ItU at *
  split
  · rename_i q
    rw [if_pos q] at h
    exact h.st e
  · rename_i q
    rw [if_neg q] at h
    exact h
theorem ItsU.st {C : Addr} {U : Int} {H H' : Hp} {ks : List Bool} {ns : List Int} {vs : List V} (h : ItsU C U H ks ns vs) (e : St H H') : ItsU C U H' ks ns vs := by
  induction h with
  | nil => exact .nil
  | cons h t ih => exact .cons (h.st e) ih
theorem TuU.st {C : Addr} {U : Int} {ks : List Bool} {ns : List Int} {v : V} {H H' : Hp} (h : TuU C U ks ns v H) (e : St H H') : TuU C U ks ns v H' := by
  obtain ⟨p, vs, e1, e2, h⟩ := h
  exact ⟨p, vs, e1, e _ _ e2 (.inr ⟨_, rfl⟩), h.st e⟩
/-- lists of values, each told by P -/
inductive Al {α : Type} (P : α → V → Hp → Prop) (H : Hp) : List α → List V → Prop where
  | nil : Al P H [] []
  | cons {a : α} {v : V} {as : List α} {vs : List V} (h : P a v H) (t : Al P H as vs) : Al P H (a :: as) (v :: vs)
section
variable {α : Type} {P : α → V → Hp → Prop} {H H' : Hp} {as bs : List α} {vs ws : List V} {a : α} {v : V}
theorem Al.map (h : Al P H as vs) (k : ∀ a v, P a v H → P a v H') : Al P H' as vs := by
  induction h with
  | nil => exact .nil
  | cons h t ih => exact .cons (k _ _ h) ih
theorem Al.len (h : Al P H as vs) : vs.length = as.length := by
  induction h with
  | nil => rfl
  | cons h t ih => rw [List.length_cons, List.length_cons, ih]
theorem Al.app (h : Al P H as vs) (h' : Al P H bs ws) : Al P H (as ++ bs) (vs ++ ws) := by
  induction h with
  | nil => exact h'
  | cons h t ih => exact .cons h ih
theorem Al.snoc (h : Al P H as vs) (h' : P a v H) : Al P H (as ++ [a]) (vs ++ [v]) := h.app (.cons h' .nil)
theorem Al.drop (h : Al P H as vs) (k : Nat) : Al P H (as.drop k) (vs.drop k) := by
  induction h generalizing k with
  | nil => rw [List.drop_nil, List.drop_nil]; exact .nil
  | cons h t ih =>
    cases k with
    | zero => exact .cons h t
    | succ k => exact ih k
theorem Al.take (h : Al P H as vs) (k : Nat) : Al P H (as.take k) (vs.take k) := by
  induction h generalizing k with
  | nil => rw [List.take_nil, List.take_nil]; exact .nil
  | cons h t ih =>
    cases k with
    | zero => exact .nil
    | succ k => exact .cons h (ih k)
theorem Al.get (h : Al P H as vs) {i : Nat} (e : as[i]? = some a) : ∃ v, vs[i]? = some v ∧ P a v H := by
  induction h generalizing i with
  | nil => cases e
  | cons h t ih =>
    cases i with
    | zero => cases e; exact ⟨_, rfl, h⟩
    | succ i => exact ih e
theorem Al.getV (h : Al P H as vs) {i : Nat} (e : vs[i]? = some v) : ∃ a, as[i]? = some a ∧ P a v H := by
  induction h generalizing i with
  | nil => cases e
  | cons h t ih =>
    cases i with
    | zero => cases e; exact ⟨_, rfl, h⟩
    | succ i => exact ih e
end
end Mo

namespace Mo
open PySem L2
/-! ### the order of rows, merging -/
abbrev Row := List Int
def lt (a b : Row) : Bool := HT.lexLt a b
theorem lt_nil {b : Row} : lt [] b = !b.isEmpty := by cases b <;> rfl
theorem lt_cons_nil {x : Int} {a : Row} : lt (x :: a) [] = false := rfl
theorem lt_cons {x y : Int} {a b : Row} : lt (x :: a) (y :: b) = if x = y then lt a b else decide (x < y) := HT.lexLt_cons ..
theorem lt_irrefl : ∀ a : Row, lt a a = false
  | [] => rfl
  | x :: a => by rw [lt_cons, if_pos rfl, lt_irrefl a]
theorem lt_asymm : ∀ {a b : Row}, lt a b = true → lt b a = false
  | [], [], _ => rfl
  | [], _ :: _, _ => rfl
  | x :: a, [], h => by cases h
  | x :: a, y :: b, h => by
    rw [lt_cons] at h ⊢
    by_cases e : x = y
    · rw [if_pos e] at h
      rw [if_pos e.symm]
      exact lt_asymm h
    · rw [if_neg e] at h
      rw [if_neg (fun z => e z.symm)]
      exact decide_eq_false (by have := of_decide_eq_true h; omega)
/-- a ≤ b -/
def le (a b : Row) : Prop := lt b a = false
theorem le_refl (a : Row) : le a a := lt_irrefl a
theorem le_total (a b : Row) : le a b ∨ le b a := by
  by_cases h : lt a b = true
  · exact .inl (lt_asymm h)
  · exact .inr (Bool.eq_false_iff.mpr h)
theorem le_trans : ∀ {a b c : Row}, le a b → le b c → le a c
  | [], [], _, _, h => h
  | [], _ :: _, c, _, _ => by cases c <;> rfl
  | x :: a, [], _, h, _ => by cases h
  | x :: a, y :: b, [], h, h' => by cases h'
  | x :: a, y :: b, z :: c, h, h' => by
    unfold le at *
    rw [lt_cons] at *
    by_cases e1 : y = x
    · subst e1
      rw [if_pos rfl] at h
      by_cases e2 : z = y
      · subst e2
        rw [if_pos rfl] at h' ⊢
        exact le_trans h h'
      · rw [if_neg e2] at h' ⊢
        exact h'
    · rw [if_neg e1] at h
      have h := of_decide_eq_false h
      by_cases e2 : z = y
      · subst e2
        rw [if_neg e1]
        exact decide_eq_false h
      · rw [if_neg e2] at h'
        have h' := of_decide_eq_false h'
        rw [if_neg (by omega)]
        exact decide_eq_false (by omega)
theorem le_antisymm : ∀ {a b : Row}, le a b → le b a → a = b
  | [], [], _, _ => rfl
  | [], _ :: _, _, h => by cases h
  | _ :: _, [], h, _ => by cases h
  | x :: a, y :: b, h, h' => by
    unfold le at h h'
    rw [lt_cons] at h h'
    by_cases e : x = y
    · subst e
      rw [if_pos rfl] at h h'
      rw [le_antisymm h h']
    · rw [if_neg (fun z => e z.symm)] at h
      rw [if_neg e] at h'
      have := of_decide_eq_false h
      have := of_decide_eq_false h'
      omega
def Srt (L : List Row) : Prop := L.Pairwise le
theorem Srt.uniq {L M : List Row} (h : Srt L) (h' : Srt M) (p : L.Perm M) : L = M := p.eq_of_pairwise (fun a b _ _ x y => le_antisymm x y) h h'
/-- the merge of two lists -/
def mrg : List Row → List Row → List Row
  | [], M => M
  | a :: L, [] => a :: L
  | a :: L, b :: M => if lt b a = true then b :: mrg (a :: L) M else a :: mrg L (b :: M)
termination_by L M => L.length + M.length
theorem mrg_nil {L : List Row} : mrg L [] = L := by cases L <;> simp [mrg]
theorem nil_mrg {M : List Row} : mrg [] M = M := by simp [mrg]
theorem mrg_cons {a b : Row} {L M : List Row} : mrg (a :: L) (b :: M) = if lt b a = true then b :: mrg (a :: L) M else a :: mrg L (b :: M) := by
  rw [mrg]
theorem mrg_perm : ∀ (L M : List Row), (mrg L M).Perm (L ++ M)
  | [], M => by simp [nil_mrg]
  | a :: L, [] => by simp [mrg_nil]
  | a :: L, b :: M => by
    rw [mrg_cons]
    split
    · exact ((mrg_perm (a :: L) M).cons b).trans List.perm_middle.symm
    · exact (mrg_perm L (b :: M)).cons a
termination_by L M => L.length + M.length
theorem mrg_srt : ∀ {L M : List Row}, Srt L → Srt M → Srt (mrg L M)
  | [], M, _, h => by rw [nil_mrg]; exact h
  | a :: L, [], h, _ => by rw [mrg_nil]; exact h
  | a :: L, b :: M, h, h' => by
    rw [mrg_cons]
    have h1 := List.pairwise_cons.mp h
    have h2 := List.pairwise_cons.mp h'
    split
    · rename_i q
      refine List.pairwise_cons.mpr ⟨fun c hc => ?_, mrg_srt h h2.2⟩
      have hba : le b a := lt_asymm q
      rcases List.mem_append.mp ((mrg_perm _ _).mem_iff.mp hc) with hc | hc
      · rcases List.mem_cons.mp hc with rfl | hc
        · exact hba
        · exact le_trans hba (h1.1 c hc)
      · exact h2.1 c hc
    · rename_i q
      have hab : le a b := Bool.eq_false_iff.mpr q
      refine List.pairwise_cons.mpr ⟨fun c hc => ?_, mrg_srt h1.2 h'⟩
      rcases List.mem_append.mp ((mrg_perm _ _).mem_iff.mp hc) with hc | hc
      · exact h1.1 c hc
      · rcases List.mem_cons.mp hc with rfl | hc
        · exact hab
        · exact le_trans hab (h2.1 c hc)
termination_by L M => L.length + M.length
theorem mrg_len (L M : List Row) : (mrg L M).length = L.length + M.length := by rw [(mrg_perm L M).length_eq, List.length_append]
theorem srt_short {L : List Row} (h : L.length < 2) : Srt L := by
  cases L with
  | nil => exact .nil
  | cons a L =>
    cases L with
    | nil => exact List.pairwise_singleton _ _
    | cons b L =>
      rw [List.length_cons, List.length_cons] at h
      omega
end Mo
namespace Mo
open PySem L2
theorem cutV_from {xs : List V} {k : Nat} (h : k ≤ xs.length) : cutV xs (some (k : Int)) none = xs.drop k := by
  unfold cutV
  rw [HT.sIx_none, HT.sIx_nat, Nat.min_eq_left h]
  refine List.take_of_length_le ?_
  rw [List.length_drop]
  exact Nat.le_refl _
theorem cutV_to {xs : List V} {k : Nat} (h : k ≤ xs.length) : cutV xs none (some (k : Int)) = xs.take k := by
  unfold cutV
  rw [HT.sIx_none, HT.sIx_nat, Nat.min_eq_left h, List.drop_zero, Nat.sub_zero]
theorem line_of {n : Nat} (h : n ≤ 1000000) : n ≤ sizeLine := by
  rw [sizeLine_eq]
  omega
theorem line_lt {n : Nat} (h : n ≤ 1000000) : n < sizeLine := by
  rw [sizeLine_eq]
  omega
end Mo

namespace Mo
open PySem L2
open Evl (Ex)
/-! ### a dict of lists -/
theorem nd_inj {α β : Type} {f : α → β} : ∀ {l : List α}, (l.map f).Nodup → ∀ {x y : α}, x ∈ l → y ∈ l → f x = f y → x = y
  | [], _, _, _, h, _, _ => by cases h
  | a :: l, nd, x, y, hx, hy, e => by
    rw [List.map_cons, List.nodup_cons] at nd
    rcases List.mem_cons.mp hx with hx' | hx'
    · rcases List.mem_cons.mp hy with hy' | hy'
      · rw [hx', hy']
      · exact absurd (show f a ∈ List.map f l from List.mem_map.mpr ⟨y, hy', by rw [← e, hx']⟩) nd.1
    · rcases List.mem_cons.mp hy with hy' | hy'
      · exact absurd (show f a ∈ List.map f l from List.mem_map.mpr ⟨x, hx', by rw [e, hy']⟩) nd.1
      · exact nd_inj nd.2 hx' hy' e
section
variable {κ α : Type} [DecidableEq κ]
/-- one more item for the key -/
def gAdd (G : List (κ × List α)) (k : κ) (a : α) : List (κ × List α) := if k ∈ G.map (·.1) then G.map (fun y => if y.1 = k then (y.1, y.2 ++ [a]) else y) else G ++ [(k, [a])]
structure GrpT (N : Addr → Prop) (mk : List (κ × V) → HO) (P : α → V → Hp → Prop) (d : Addr) (T : List (κ × Addr × List α)) (H : Hp) : Prop where
  at_ : H d = some (mk (T.map fun x => (x.1, V.ref x.2.1)))
  ls : ∀ x ∈ T, ∃ vs, H x.2.1 = some (.lst vs) ∧ Al P H x.2.2 vs
  ks : (T.map (·.1)).Nodup
  ad : (T.map (·.2.1)).Nodup
  nw : ∀ x ∈ T, N x.2.1
/-- at d a dict of lists, the groups G -/
def Grp (N : Addr → Prop) (mk : List (κ × V) → HO) (P : α → V → Hp → Prop) (d : Addr) (G : List (κ × List α)) (H : Hp) : Prop := ∃ T, GrpT N mk P d T H ∧ G = T.map fun x => (x.1, x.2.2)
/-- the list of k's group stands at l and waits for one more -/
def Pend (N : Addr → Prop) (mk : List (κ × V) → HO) (P : α → V → Hp → Prop) (d : Addr) (G : List (κ × List α)) (k : κ) (l : Addr) (vs : List V) (H : Hp) : Prop := H l = some (.lst vs) ∧ N l ∧ ∀ H', Ex H H' → ∀ a w, P a w H' → Grp N mk P d (gAdd G k a) (upd H' l (.lst (vs ++ [w])))
variable {N : Addr → Prop} {mk : List (κ × V) → HO} {P : α → V → Hp → Prop} {d : Addr} {G : List (κ × List α)} {H H' : Hp} {k : κ}
theorem GrpT.ex {T : List (κ × Addr × List α)} (hP : ∀ a v H H', St H H' → P a v H → P a v H') (g : GrpT N mk P d T H) (e : Ex H H') : GrpT N mk P d T H' :=
  ⟨e _ _ g.at_, fun x hx => let ⟨vs, h1, h2⟩ := g.ls x hx; ⟨vs, e _ _ h1, h2.map fun a v q => hP a v H H' (.of e) q⟩, g.ks, g.ad, g.nw⟩
theorem Grp.ex (hP : ∀ a v H H', St H H' → P a v H → P a v H') (g : Grp N mk P d G H) (e : Ex H H') : Grp N mk P d G H' := let ⟨T, t, h⟩ := g; ⟨T, t.ex hP e, h⟩
theorem valT_some {T : List (κ × Addr × List α)} (nd : (T.map (·.1)).Nodup) {v : V} (h : valV (T.map fun x => (x.1, V.ref x.2.1)) k = some v) : ∃ x ∈ T, x.1 = k ∧ v = .ref x.2.1 := by
  induction T with
  | nil => cases h
  | cons x T ih =>
    rw [List.map_cons] at h nd
    by_cases e : x.1 = k
    · rw [valV_pos (p := (x.1, V.ref x.2.1)) e] at h
      cases h
      exact ⟨x, List.mem_cons_self, e, rfl⟩
    · rw [valV_neg (p := (x.1, V.ref x.2.1)) e] at h
      obtain ⟨y, hy, e1, e2⟩ := ih (List.nodup_cons.mp nd).2 h
      exact ⟨y, List.mem_cons_of_mem _ hy, e1, e2⟩
theorem valT_none {T : List (κ × Addr × List α)} (h : valV (T.map fun x => (x.1, V.ref x.2.1)) k = none) : ∀ x ∈ T, x.1 ≠ k := by
  induction T with
  | nil => intro x hx; cases hx
  | cons x T ih =>
    rw [List.map_cons] at h
    by_cases e : x.1 = k
    · rw [valV_pos (p := (x.1, V.ref x.2.1)) e] at h
      cases h
    · rw [valV_neg (p := (x.1, V.ref x.2.1)) e] at h
      intro y hy
      rcases List.mem_cons.mp hy with rfl | hy
      · exact e
      · exact ih h y hy
theorem Grp.look (hm : ∀ kvs xs, mk kvs ≠ .lst xs) (hi : ∀ kvs, ¬ ((∃ C dx fs, mk kvs = .ins C dx fs) ∨ ∃ xs, mk kvs = .tup xs)) (hP : ∀ a v H H', St H H' → P a v H → P a v H') (g : Grp N mk P d G H) (q : Addr) (hq : H q = none) (hN : N q) (k : κ) :
    ∃ kvs, upd H q (.lst []) d = some (mk kvs) ∧ kvs.length = G.length ∧
      (∀ v, valV kvs k = some v → ∃ l vs, v = .ref l ∧ vs.length ≤ (G.map (·.2.length)).sum ∧ Pend N mk P d G k l vs (upd H q (.lst []))) ∧
      (valV kvs k = none → Pend N mk P d G k q [] (upd (upd H q (.lst [])) d (mk (putK kvs k (.ref q)))) ∧ St (upd H q (.lst [])) (upd (upd H q (.lst [])) d (mk (putK kvs k (.ref q))))) := by
  obtain ⟨T, t, rfl⟩ := g
  have e0 : Ex H (upd H q (.lst [])) := Ex.new hq
  have t0 := t.ex hP e0
  have hdq : d ≠ q := fun z => by rw [← z, t.at_] at hq; cases hq
  refine ⟨_, t0.at_, by rw [List.length_map, List.length_map], fun v hv => ?_, fun hn => ?_⟩
  · obtain ⟨x, hx, hk, rfl⟩ := valT_some t.ks hv
    obtain ⟨vs, h1, h2⟩ := t0.ls x hx
    refine ⟨x.2.1, vs, rfl, ?_, h1, t.nw x hx, fun H4 e4 a w pw => ?_⟩
    · rw [h2.len, List.map_map]
      have : ∀ (T : List (κ × Addr × List α)), x ∈ T → x.2.2.length ≤ (T.map ((fun y : κ × List α => y.2.length) ∘ fun x => (x.1, x.2.2))).sum := by
        intro T hx
        induction T with
        | nil => cases hx
        | cons y T ih =>
          rw [List.map_cons, List.sum_cons]
          rcases List.mem_cons.mp hx with rfl | hx
          · exact Nat.le_add_right _ _
          · exact Nat.le_trans (ih hx) (Nat.le_add_left _ _)
      exact this T hx
    · have t4 := t0.ex hP e4
      have hl := e4 _ _ h1
      have sl : St H4 (upd H4 x.2.1 (.lst (vs ++ [w]))) := St.lst hl
      have hdl : d ≠ x.2.1 := fun z => by
        have := t4.at_
        rw [z, hl] at this
        exact hm _ _ (Option.some.inj this).symm
      refine ⟨T.map fun y => if y.1 = k then (y.1, y.2.1, y.2.2 ++ [a]) else y, ⟨?_, ?_, ?_, ?_, fun y' hy' => ?_⟩, ?_⟩
      · rw [upd_ne hdl, t4.at_, List.map_map]
        congr 2
        refine List.map_congr_left fun y _ => ?_
        show _ = ((if y.1 = k then (y.1, y.2.1, y.2.2 ++ [a]) else y).1, V.ref (if y.1 = k then (y.1, y.2.1, y.2.2 ++ [a]) else y).2.1)
        split <;> rfl
      · intro y' hy'
        obtain ⟨y, hy, rfl⟩ := List.mem_map.mp hy'
        by_cases e : y.1 = k
        · have := nd_inj t.ks hy hx (e.trans hk.symm)
          subst this
          rw [if_pos e]
          exact ⟨vs ++ [w], upd_same, ((h2.map fun a v q => hP a v _ _ (.of e4) q).map fun a v q => hP a v _ _ sl q).snoc (hP _ _ _ _ sl pw)⟩
        · rw [if_neg e]
          obtain ⟨us, g1, g2⟩ := t4.ls y hy
          have ny : y.2.1 ≠ x.2.1 := fun z => e (by rw [nd_inj t.ad hy hx z]; exact hk)
          exact ⟨us, by rw [upd_ne ny]; exact g1, g2.map fun a v q => hP a v _ _ sl q⟩
      · rw [List.map_map]
        have : ((fun x : κ × Addr × List α => x.1) ∘ fun y => if y.1 = k then (y.1, y.2.1, y.2.2 ++ [a]) else y) = fun x => x.1 := by
          funext y
          show (if y.1 = k then (y.1, y.2.1, y.2.2 ++ [a]) else y).1 = y.1
          split <;> rfl
        rw [this]
        exact t.ks
      · rw [List.map_map]
        have : ((fun x : κ × Addr × List α => x.2.1) ∘ fun y => if y.1 = k then (y.1, y.2.1, y.2.2 ++ [a]) else y) = fun x => x.2.1 := by
          funext y
          show (if y.1 = k then (y.1, y.2.1, y.2.2 ++ [a]) else y).2.1 = y.2.1
          split <;> rfl
        rw [this]
        exact t.ad
      · obtain ⟨y, hy, rfl⟩ := List.mem_map.mp hy'
        have : (if y.1 = k then (y.1, y.2.1, y.2.2 ++ [a]) else y).2.1 = y.2.1 := by split <;> rfl
        rw [this]
        exact t.nw y hy
      · unfold gAdd
        rw [if_pos (by rw [List.map_map]; exact List.mem_map.mpr ⟨x, hx, hk⟩), List.map_map, List.map_map]
        refine List.map_congr_left fun y _ => ?_
        show (if y.1 = k then (y.1, y.2.2 ++ [a]) else (y.1, y.2.2)) = ((if y.1 = k then (y.1, y.2.1, y.2.2 ++ [a]) else y).1, (if y.1 = k then (y.1, y.2.1, y.2.2 ++ [a]) else y).2.2)
        split <;> rfl
  · have nk := valT_none hn
    have sd : ∀ o, St (upd H q (.lst [])) (upd (upd H q (.lst [])) d o) := fun o a u e z => by
      have : a ≠ d := fun w => by
        rw [w, t0.at_] at e
        cases e
        exact hi _ z
      rw [upd_ne this]
      exact e
    refine ⟨⟨by rw [upd_ne (fun z => hdq z.symm), upd_same], hN, fun H4 e4 a w pw => ?_⟩, sd _⟩
    have hl : H4 q = some (.lst []) := e4 _ _ (by rw [upd_ne (fun z => hdq z.symm), upd_same])
    have hd : H4 d = some (mk ((T.map fun x => (x.1, V.ref x.2.1)) ++ [(k, .ref q)])) := e4 _ _ (by rw [upd_same, putK_new _ hn])
    have sl : St H4 (upd H4 q (.lst ([] ++ [w]))) := St.lst hl
    refine ⟨T ++ [(k, q, [a])], ⟨?_, ?_, ?_, ?_, fun y hy => ?_⟩, ?_⟩
    · rw [upd_ne hdq, hd, List.map_append]
      rfl
    · intro y hy
      rcases List.mem_append.mp hy with hy | hy
      · obtain ⟨us, g1, g2⟩ := t.ls y hy
        have n1 : y.2.1 ≠ q := ne_of_none g1 hq
        have n2 : y.2.1 ≠ d := fun z => by
          rw [z, t.at_] at g1
          exact hm _ _ (Option.some.inj g1)
        exact ⟨us, by rw [upd_ne n1]; exact e4 _ _ (by rw [upd_ne n2, upd_ne n1]; exact g1), ((((g2.map fun a v q => hP a v _ _ (.of e0) q).map fun a v q => hP a v _ _ (sd _) q).map fun a v q => hP a v _ _ (.of e4) q).map fun a v q => hP a v _ _ sl q)⟩
      · rw [List.mem_singleton.mp hy]
        exact ⟨[w], upd_same, .cons (hP _ _ _ _ sl pw) .nil⟩
    · rw [List.map_append, List.nodup_append]
      refine ⟨t.ks, by simp, fun x hx y hy => ?_⟩
      obtain ⟨z, hz, rfl⟩ := List.mem_map.mp hx
      rw [List.mem_singleton.mp hy]
      exact nk z hz
    · rw [List.map_append, List.nodup_append]
      refine ⟨t.ad, by simp, fun x hx y hy => ?_⟩
      obtain ⟨z, hz, rfl⟩ := List.mem_map.mp hx
      rw [List.mem_singleton.mp hy]
      obtain ⟨us, g1, _⟩ := t.ls z hz
      exact ne_of_none g1 hq
    · rcases List.mem_append.mp hy with hy | hy
      · exact t.nw y hy
      · rw [List.mem_singleton.mp hy]
        exact hN
    · unfold gAdd
      rw [if_neg (by
        rw [List.map_map]
        intro z
        obtain ⟨y, hy, e⟩ := List.mem_map.mp z
        exact nk y hy e), List.map_append]
      rfl
end
end Mo

namespace Mo
open PySem L2
open Evl (Ex)
/-! ### groups of a list -/
section
variable {κ α : Type} [DecidableEq κ]
def grp (f : α → κ) (L : List α) : List (κ × List α) := L.foldl (fun G r => gAdd G (f r) r) []
theorem grp_snoc (f : α → κ) (L : List α) (a : α) : grp f (L ++ [a]) = gAdd (grp f L) (f a) a := by
  unfold grp
  rw [List.foldl_append]
  rfl
theorem gAdd_keys (G : List (κ × List α)) (k : κ) (a : α) : (gAdd G k a).map (·.1) = if k ∈ G.map (·.1) then G.map (·.1) else G.map (·.1) ++ [k] := by
  unfold gAdd
  split
  · rw [List.map_map]
    refine List.map_congr_left fun y _ => ?_
    show (if y.1 = k then (y.1, y.2 ++ [a]) else y).1 = y.1
    split <;> rfl
  · rw [List.map_append]
    rfl
theorem grp_ind {f : α → κ} {P : List α → List (κ × List α) → Prop} (h0 : P [] []) (hs : ∀ L a G, P L G → P (L ++ [a]) (gAdd G (f a) a)) (L : List α) : P L (grp f L) := by
  suffices h : ∀ (M L : List α) (G), P L G → P (L ++ M) (M.foldl (fun G r => gAdd G (f r) r) G) from by
    have := h L [] [] h0
    rw [List.nil_append] at this
    exact this
  intro M
  induction M with
  | nil => intro L G p; rw [List.append_nil]; exact p
  | cons a M ih =>
    intro L G p
    have := ih (L ++ [a]) _ (hs L a G p)
    rw [List.append_assoc] at this
    exact this
theorem grp_keys (f : α → κ) (L : List α) : ((grp f L).map (·.1)).Nodup ∧ ∀ k, k ∈ (grp f L).map (·.1) ↔ ∃ r ∈ L, f r = k := by
  refine grp_ind (P := fun L G => (G.map (·.1)).Nodup ∧ ∀ k, k ∈ G.map (·.1) ↔ ∃ r ∈ L, f r = k) ⟨.nil, fun k => by simp⟩ (fun L a G ⟨nd, h⟩ => ?_) L
  rw [gAdd_keys]
  by_cases q : f a ∈ G.map (·.1)
  · rw [if_pos q]
    refine ⟨nd, fun k => ⟨fun z => ?_, fun ⟨r, hr, e⟩ => ?_⟩⟩
    · obtain ⟨r, hr, e⟩ := (h k).mp z
      exact ⟨r, List.mem_append_left _ hr, e⟩
    · rcases List.mem_append.mp hr with hr | hr
      · exact (h k).mpr ⟨r, hr, e⟩
      · rw [List.mem_singleton.mp hr] at e
        rw [← e]
        exact q
  · rw [if_neg q]
    refine ⟨?_, fun k => ⟨fun z => ?_, fun ⟨r, hr, e⟩ => ?_⟩⟩
    · rw [List.nodup_append]
      exact ⟨nd, by simp, fun x hx y hy z => q (by rw [List.mem_singleton.mp hy] at z; rw [← z]; exact hx)⟩
    · rcases List.mem_append.mp z with z | z
      · obtain ⟨r, hr, e⟩ := (h k).mp z
        exact ⟨r, List.mem_append_left _ hr, e⟩
      · exact ⟨a, List.mem_append_right _ (List.mem_singleton.mpr rfl), (List.mem_singleton.mp z).symm⟩
    · rcases List.mem_append.mp hr with hr | hr
      · exact List.mem_append_left _ ((h k).mpr ⟨r, hr, e⟩)
      · rw [List.mem_singleton.mp hr] at e
        exact List.mem_append_right _ (List.mem_singleton.mpr e.symm)
theorem grp_mem (f : α → κ) (L : List α) : ∀ x ∈ grp f L, x.2 = L.filter fun r => f r = x.1 := by
  refine (grp_ind (P := fun L G => ((G.map (·.1)).Nodup ∧ ∀ k, k ∈ G.map (·.1) ↔ ∃ r ∈ L, f r = k) ∧ ∀ x ∈ G, x.2 = L.filter fun r => f r = x.1) ⟨⟨.nil, fun k => by simp⟩, fun x hx => by cases hx⟩ (fun L a G ⟨hk, h⟩ => ⟨?_, ?_⟩) L).2
  · have nd := hk.1
    have h := hk.2
    rw [gAdd_keys]
    by_cases q : f a ∈ G.map (·.1)
    · rw [if_pos q]
      refine ⟨nd, fun k => ⟨fun z => ?_, fun ⟨r, hr, e⟩ => ?_⟩⟩
      · obtain ⟨r, hr, e⟩ := (h k).mp z
        exact ⟨r, List.mem_append_left _ hr, e⟩
      · rcases List.mem_append.mp hr with hr | hr
        · exact (h k).mpr ⟨r, hr, e⟩
        · rw [List.mem_singleton.mp hr] at e
          rw [← e]
          exact q
    · rw [if_neg q]
      refine ⟨?_, fun k => ⟨fun z => ?_, fun ⟨r, hr, e⟩ => ?_⟩⟩
      · rw [List.nodup_append]
        exact ⟨nd, by simp, fun x hx y hy z => q (by rw [List.mem_singleton.mp hy] at z; rw [← z]; exact hx)⟩
      · rcases List.mem_append.mp z with z | z
        · obtain ⟨r, hr, e⟩ := (h k).mp z
          exact ⟨r, List.mem_append_left _ hr, e⟩
        · exact ⟨a, List.mem_append_right _ (List.mem_singleton.mpr rfl), (List.mem_singleton.mp z).symm⟩
      · rcases List.mem_append.mp hr with hr | hr
        · exact List.mem_append_left _ ((h k).mpr ⟨r, hr, e⟩)
        · rw [List.mem_singleton.mp hr] at e
          exact List.mem_append_right _ (List.mem_singleton.mpr e.symm)
  · intro x hx
    rw [List.filter_append]
    unfold gAdd at hx
    split at hx
    · obtain ⟨y, hy, rfl⟩ := List.mem_map.mp hx
      have hh := h y hy
      by_cases e : y.1 = f a
      · rw [if_pos e]
        show y.2 ++ [a] = L.filter (fun r => decide (f r = y.1)) ++ _
        rw [← hh, List.filter_cons_of_pos (by exact decide_eq_true e.symm)]
        rfl
      · rw [if_neg e]
        rw [← hh, List.filter_cons_of_neg (by rw [decide_eq_true_eq]; exact fun z => e z.symm)]
        simp
    · rename_i q
      rcases List.mem_append.mp hx with hx | hx
      · have hh := h x hx
        have e : x.1 ≠ f a := fun z => q (by rw [← z]; exact List.mem_map.mpr ⟨x, hx, rfl⟩)
        rw [← hh, List.filter_cons_of_neg (by rw [decide_eq_true_eq]; exact fun z => e z.symm)]
        simp
      · rw [List.mem_singleton.mp hx]
        show [a] = L.filter (fun r => decide (f r = f a)) ++ [a].filter (fun r => decide (f r = f a))
        have : L.filter (fun r => decide (f r = f a)) = [] := by
          rw [List.filter_eq_nil_iff]
          intro r hr z
          exact q ((hk.2 _).mpr ⟨r, hr, of_decide_eq_true z⟩)
        rw [this, List.filter_cons_of_pos (by exact decide_eq_true rfl)]
        rfl
theorem gAdd_sum (G : List (κ × List α)) (k : κ) (a : α) (nd : (G.map (·.1)).Nodup) : ((gAdd G k a).map (·.2.length)).sum = (G.map (·.2.length)).sum + 1 ∧ (gAdd G k a).length ≤ G.length + 1 := by
  unfold gAdd
  split
  · rename_i q
    refine ⟨?_, by rw [List.length_map]; omega⟩
    induction G with
    | nil => cases q
    | cons y G ih =>
      rw [List.map_cons, List.nodup_cons] at nd
      rw [List.map_cons, List.map_cons, List.map_cons, List.sum_cons, List.sum_cons]
      by_cases e : y.1 = k
      · rw [if_pos e]
        have : G.map (fun y => if y.1 = k then (y.1, y.2 ++ [a]) else y) = G := by
          refine (List.map_congr_left (g := fun z => z) fun z hz => ?_).trans (List.map_id' G)
          rw [if_neg]
          intro w
          exact nd.1 (List.mem_map.mpr ⟨z, hz, w.trans e.symm⟩)
        rw [this]
        show (y.2 ++ [a]).length + _ = _
        rw [List.length_append, List.length_singleton]
        omega
      · rw [if_neg e]
        have := ih nd.2 (by
          rcases List.mem_cons.mp q with q | q
          · exact absurd q.symm e
          · exact q)
        omega
  · rw [List.map_append, List.sum_append, List.length_append]
    exact ⟨rfl, Nat.le_refl _⟩
theorem grp_sum (f : α → κ) (L : List α) : ((grp f L).map (·.2.length)).sum = L.length ∧ (grp f L).length ≤ L.length := by
  have key := grp_ind (f := f) (P := fun L G => (G.map (·.1)).Nodup ∧ (G.map (·.2.length)).sum = L.length ∧ G.length ≤ L.length) ⟨.nil, rfl, Nat.le_refl _⟩ (fun L a G ⟨nd, h1, h2⟩ => ⟨?_, ?_, ?_⟩) L
  · exact key.2
  · rw [gAdd_keys]
    split
    · exact nd
    · rename_i q
      rw [List.nodup_append]
      exact ⟨nd, by simp, fun x hx y hy z => q (by rw [List.mem_singleton.mp hy] at z; rw [← z]; exact hx)⟩
  · rw [(gAdd_sum G _ a nd).1, h1, List.length_append]
    rfl
  · have := (gAdd_sum G (f a) a nd).2
    rw [List.length_append, List.length_singleton]
    omega
/-- all of L, key by key -/
theorem perm_keys (f : α → κ) : ∀ (ks : List κ) (L : List α), ks.Nodup → (∀ r ∈ L, f r ∈ ks) → (ks.flatMap fun k => L.filter fun r => f r = k).Perm L
  | [], L, _, h => by
    cases L with
    | nil => exact .refl _
    | cons a L => cases h a List.mem_cons_self
  | k :: ks, L, nd, h => by
    rw [List.nodup_cons] at nd
    rw [List.flatMap_cons]
    have p1 : (L.filter (fun r => decide (f r = k)) ++ L.filter (fun r => !decide (f r = k))).Perm L := List.filter_append_perm _ L
    refine .trans ?_ p1
    refine .append_left _ ?_
    have ih := perm_keys f ks (L.filter (fun r => !decide (f r = k))) nd.2 (fun r hr => by
      obtain ⟨h1, h2⟩ := List.mem_filter.mp hr
      rcases List.mem_cons.mp (h r h1) with q | q
      · rw [q, decide_eq_true rfl] at h2
        cases h2
      · exact q)
    refine .trans (.of_eq ?_) ih
    have fm : ∀ (ks : List κ) (g h : κ → List α), (∀ k' ∈ ks, g k' = h k') → ks.flatMap g = ks.flatMap h := by
      intro ks g h e
      induction ks with
      | nil => rfl
      | cons k ks ih => rw [List.flatMap_cons, List.flatMap_cons, e k List.mem_cons_self, ih fun k' hk' => e k' (List.mem_cons_of_mem _ hk')]
    refine fm _ _ _ fun k' hk' => ?_
    rw [List.filter_filter]
    refine List.filter_congr fun r _ => ?_
    have : k' ≠ k := fun z => nd.1 (z ▸ hk')
    by_cases e : f r = k'
    · rw [decide_eq_true e, decide_eq_false (by rw [e]; exact this)]
      rfl
    · rw [decide_eq_false e]
      rfl
end
/-! ### boxes of rows -/
def box (U : Int) (r : Row) : Int := (r.headD 0 * 1024).fdiv U
def bkey (U : Int) (r : Row) : Key := .inl (box U r)
theorem box_floor {n U t b : Int} (N : Norm n U t b) (hU : 0 < U) : (t * 1024).fdiv b = (n * 1024).fdiv U := by
  rw [← Int.mul_fdiv_mul_of_pos (t * 1024) b hU, ← Int.mul_fdiv_mul_of_pos (n * 1024) U N.pos]
  have h := N.eq
  have e : U * (t * 1024) = b * (n * 1024) := by grind
  rw [e, Int.mul_comm U b]
theorem box_lt {U : Int} (hU : 0 < U) {n m : Int} (h : (n * 1024).fdiv U < (m * 1024).fdiv U) : n < m := by
  refine Int.not_le.mp fun z => ?_
  rw [Int.fdiv_eq_ediv_of_nonneg _ (Int.le_of_lt hU), Int.fdiv_eq_ediv_of_nonneg _ (Int.le_of_lt hU)] at h
  have := Int.ediv_le_ediv hU (show m * 1024 ≤ n * 1024 by omega)
  omega
theorem le_box {U : Int} (hU : 0 < U) {r q : Row} (hr : r ≠ []) (hq : q ≠ []) (h : box U r < box U q) : le r q := by
  cases r with
  | nil => exact absurd rfl hr
  | cons x r =>
    cases q with
    | nil => exact absurd rfl hq
    | cons y q =>
      have : x < y := box_lt hU h
      unfold le
      rw [lt_cons, if_neg (by omega)]
      exact decide_eq_false (by omega)
/-- one box more behind -/
theorem srt_more {U : Int} (hU : 0 < U) {L D N : List Row} {bs : List Int} {b : Int} (hL : ∀ r ∈ L, r ≠ []) (hb : ∀ c ∈ bs, c < b) (pD : D.Perm (bs.flatMap fun c => L.filter fun r => box U r = c)) (pN : N.Perm (L.filter fun r => box U r = b)) (sD : Srt D) (sN : Srt N) : Srt (D ++ N) := by
  refine List.pairwise_append.mpr ⟨sD, sN, fun r hr q hq => ?_⟩
  obtain ⟨c, hc, hr⟩ := List.mem_flatMap.mp (pD.mem_iff.mp hr)
  obtain ⟨r1, r2⟩ := List.mem_filter.mp hr
  obtain ⟨q1, q2⟩ := List.mem_filter.mp (pN.mem_iff.mp hq)
  refine le_box hU (hL r r1) (hL q q1) ?_
  rw [of_decide_eq_true r2, of_decide_eq_true q2]
  exact hb c hc
theorem rise_lt {ns : List Int} (nd : ns.Nodup) (h : ns.Pairwise (· ≤ ·)) : ns.Pairwise (· < ·) := by
  refine (List.Pairwise.and nd h).imp fun {a b} ⟨h1, h2⟩ => ?_
  omega
theorem rise_at {ns : List Int} (h : ns.Pairwise (· < ·)) {i : Nat} {b : Int} (e : ns[i]? = some b) : ∀ c ∈ ns.take i, c < b := by
  have e1 : ns = ns.take i ++ ns.drop i := (List.take_append_drop i ns).symm
  obtain ⟨hi, e2⟩ := List.getElem?_eq_some_iff.mp e
  rw [e1, List.drop_eq_getElem_cons hi, e2] at h
  exact fun c hc => (List.pairwise_append.mp h).2.2 c hc b List.mem_cons_self
theorem flat_len {L : List Row} {U : Int} {N : List Row} {b : Int} (pN : N.Perm (L.filter fun r => box U r = b)) : N.length ≤ L.length := by
  rw [pN.length_eq]
  exact List.length_filter_le _ _
theorem bkey_filter (U : Int) (L : List Row) (b : Int) : (L.filter fun r => decide (bkey U r = .inl b)) = L.filter fun r => decide (box U r = b) := by
  refine List.filter_congr fun r _ => ?_
  unfold bkey
  rw [decide_eq_decide]
  exact ⟨fun h => by injection h, fun h => by rw [h]⟩
/-- unfrozen again -/
theorem Ex.lock {H H' : Hp} {d : Addr} {o u : HO} (e : Ex (upd H d o) H') (hd : H d = some u) : Ex H (upd H' d u) := by
  intro a v ha
  by_cases q : a = d
  · subst q
    rw [upd_same, ← ha, hd]
  · rw [upd_ne q]
    exact e a v (by rw [upd_ne q]; exact ha)
theorem none_back {H H' : Hp} {a : Addr} (e : Ex H H') (h : H' a = none) : H a = none := by
  cases q : H a with
  | none => rfl
  | some u =>
    rw [e _ _ q] at h
    cases h
theorem at0 {x : V} {xs : List V} : atI (x :: xs) 0 = some x := atI_nat (j := 0) rfl
theorem at1 {x y : V} {xs : List V} : atI (x :: y :: xs) 1 = some y := atI_nat (j := 1) rfl
theorem at2 {x y z : V} {xs : List V} : atI (x :: y :: z :: xs) 2 = some z := atI_nat (j := 2) rfl
theorem Mut.dK (kvs : List (Key × V)) : Mut (some (.dK kvs)) := True.intro
theorem Mut.dT (kvs : List (List Key × V)) : Mut (some (.dT kvs)) := True.intro
/-! the group at its key -/
section
variable {κ α : Type} [DecidableEq κ] {N : Addr → Prop} {mk : List (κ × V) → HO} {P : α → V → Hp → Prop} {d : Addr} {T : List (κ × Addr × List α)} {H : Hp}
theorem Grp.zero (e : H d = some (mk [])) : Grp N mk P d ([] : List (κ × List α)) H :=
  ⟨[], { at_ := e, ls := fun x hx => (nomatch hx), ks := .nil, ad := .nil, nw := fun x hx => (nomatch hx) }, rfl⟩
theorem Grp.isD {N : Addr → Prop} {P : α → V → Hp → Prop} {d : Addr} {G : List (Key × List α)} {H : Hp} (g : Grp N HO.dK P d G H) : IsD H d := let ⟨_, t, _⟩ := g; .inl ⟨_, .inl t.at_⟩
theorem Grp.isDT {N : Addr → Prop} {P : α → V → Hp → Prop} {d : Addr} {G : List (List Key × List α)} {H : Hp} (g : Grp N HO.dT P d G H) : IsD H d := let ⟨_, t, _⟩ := g; .inr ⟨_, .inl t.at_⟩
theorem dK_lst : ∀ (kvs : List (Key × V)) xs, HO.dK kvs ≠ .lst xs := fun _ _ h => by cases h
theorem dT_lst : ∀ (kvs : List (List Key × V)) xs, HO.dT kvs ≠ .lst xs := fun _ _ h => by cases h
theorem dK_st : ∀ kvs : List (Key × V), ¬ ((∃ C dx fs, HO.dK kvs = .ins C dx fs) ∨ ∃ xs, HO.dK kvs = .tup xs) := fun _ h => by
  rcases h with ⟨_, _, _, h⟩ | ⟨_, h⟩ <;> cases h
theorem dT_st : ∀ kvs : List (List Key × V), ¬ ((∃ C dx fs, HO.dT kvs = .ins C dx fs) ∨ ∃ xs, HO.dT kvs = .tup xs) := fun _ h => by
  rcases h with ⟨_, _, _, h⟩ | ⟨_, h⟩ <;> cases h
theorem GrpT.val (g : GrpT N mk P d T H) {k : κ} (h : k ∈ T.map (·.1)) : ∃ l vs rs, valV (T.map fun x => (x.1, V.ref x.2.1)) k = some (.ref l) ∧ H l = some (.lst vs) ∧ Al P H rs vs ∧ (k, l, rs) ∈ T := by
  cases e : valV (T.map fun x => (x.1, V.ref x.2.1)) k with
  | none =>
    obtain ⟨x, hx, hk⟩ := List.mem_map.mp h
    exact absurd hk (valT_none e x hx)
  | some v =>
    obtain ⟨x, hx, rfl, rfl⟩ := valT_some g.ks e
    obtain ⟨vs, h1, h2⟩ := g.ls x hx
    exact ⟨x.2.1, vs, x.2.2, rfl, h1, h2, hx⟩
end
/-- the number of a key -/
def kI : Key → Int
  | .inl n => n
  | .inr _ => 0
theorem kI_inj : ∀ {ks : List Key}, (∀ k ∈ ks, ∃ n : Int, k = .inl n) → ks.Nodup → (ks.map kI).Nodup
  | [], _, _ => .nil
  | k :: ks, h, nd => by
    rw [List.nodup_cons] at nd
    rw [List.map_cons, List.nodup_cons]
    refine ⟨fun z => ?_, kI_inj (fun k hk => h k (List.mem_cons_of_mem _ hk)) nd.2⟩
    obtain ⟨j, hj, e⟩ := List.mem_map.mp z
    obtain ⟨n, rfl⟩ := h k List.mem_cons_self
    obtain ⟨m, rfl⟩ := h j (List.mem_cons_of_mem _ hj)
    have e : m = n := e
    rw [e] at hj
    exact nd.1 hj
theorem flat_take {α β : Type} (F : α → List β) (ns : List α) (i : Nat) : ((ns.take i).flatMap F).length ≤ (ns.flatMap F).length := by
  have : ns.flatMap F = (ns.take i).flatMap F ++ (ns.drop i).flatMap F := by rw [← List.flatMap_append, List.take_append_drop]
  rw [this, List.length_append]
  exact Nat.le_add_right _ _
/-! ### parts that touch are one -/
def r0 (r : Row) : Int := r.headD 0
def r1 (r : Row) : Int := r.tail.headD 0
/-- one part more, behind those that are there -/
def ust (out : List Row) (r : Row) : List Row :=
  match out.getLast? with
  | none => [r]
  | some l => if r0 r ≤ r1 l then out.dropLast ++ [[r0 l, max (r1 l) (r1 r)]] else out ++ [r]
theorem ust_nil (r : Row) : ust [] r = [r] := rfl
theorem ust_snoc (D : List Row) (l r : Row) : ust (D ++ [l]) r = if r0 r ≤ r1 l then D ++ [[r0 l, max (r1 l) (r1 r)]] else D ++ [l] ++ [r] := by
  unfold ust
  rw [List.getLast?_concat]
  show (if r0 r ≤ r1 l then _ else _) = _
  rw [List.dropLast_concat]
def united (L : List Row) : List Row := L.foldl ust []
theorem ust_len (D : List Row) (r : Row) : (ust D r).length ≤ D.length + 1 := by
  rcases List.eq_nil_or_concat D with rfl | ⟨D, l, rfl⟩
  · exact Nat.le_refl _
  · rw [List.concat_eq_append, ust_snoc]
    split
    · simp
    · simp
theorem united_len (L : List Row) : (united L).length ≤ L.length := by
  suffices h : ∀ (L D : List Row), (L.foldl ust D).length ≤ D.length + L.length from by
    have := h L []
    rw [List.length_nil, Nat.zero_add] at this
    exact this
  intro L
  induction L with
  | nil => intro D; exact Nat.le_refl _
  | cons r L ih =>
    intro D
    have h1 := ih (ust D r)
    have h2 := ust_len D r
    rw [List.foldl_cons, List.length_cons]
    omega
theorem Al.last {α : Type} {P : α → V → Hp → Prop} {H : Hp} {as : List α} {a : α} {vs : List V} (h : Al P H (as ++ [a]) vs) : ∃ ws w, vs = ws ++ [w] ∧ Al P H as ws ∧ P a w H := by
  induction as generalizing vs with
  | nil =>
    cases h with
    | cons h t =>
      cases t
      exact ⟨[], _, rfl, .nil, h⟩
  | cons b as ih =>
    cases h with
    | cons h t =>
      obtain ⟨ws, w, rfl, h1, h2⟩ := ih t
      exact ⟨_ :: ws, w, rfl, .cons h h1, h2⟩
theorem ixN_last {n : Nat} : ixN (n + 1) (-1) = some n := by
  unfold ixN
  rw [if_neg (by decide), if_pos (by omega)]
  congr 1
  omega
end Mo

namespace Mo
open PySem L2
open Evl (Ex)
/-! ### longest parts, by keys -/
def asc : List Row → List Row
  | [] => []
  | a :: L => mrg [a] (asc L)
theorem asc_perm : ∀ L : List Row, (asc L).Perm L
  | [] => .refl _
  | a :: L => (mrg_perm [a] (asc L)).trans ((asc_perm L).cons a)
theorem asc_srt : ∀ L : List Row, Srt (asc L)
  | [] => .nil
  | a :: L => mrg_srt (List.pairwise_singleton _ _) (asc_srt L)
theorem asc_of {L N : List Row} (p : N.Perm L) (s : Srt N) : N = asc L := s.uniq (asc_srt L) (p.trans (asc_perm L).symm)
/-- start and stop -/
def se (r : Row) : Row := [r0 r, r1 r]
/-- the parts of one mark, and the mark -/
def longOf (L : List Row) : List Row := (united (asc (L.map se))).map fun q => q ++ (L.headD []).drop 2
def long {κ : Type} [DecidableEq κ] (f : Row → κ) (L : List Row) : List Row := (grp f L).flatMap fun x => longOf x.2
theorem longOf_len (L : List Row) : (longOf L).length ≤ L.length := by
  unfold longOf
  rw [List.length_map]
  refine Nat.le_trans (united_len _) ?_
  rw [(asc_perm _).length_eq, List.length_map]
  exact Nat.le_refl _
theorem flat_len_le {α β : Type} {F : α → List β} {m : α → Nat} : ∀ (xs : List α), (∀ x ∈ xs, (F x).length ≤ m x) → (xs.flatMap F).length ≤ (xs.map m).sum
  | [], _ => Nat.le_refl _
  | x :: xs, h => by
    rw [List.flatMap_cons, List.length_append, List.map_cons, List.sum_cons]
    exact Nat.add_le_add (h x List.mem_cons_self) (flat_len_le xs fun y hy => h y (List.mem_cons_of_mem _ hy))
theorem long_len {κ : Type} [DecidableEq κ] (f : Row → κ) (L : List Row) : (long f L).length ≤ L.length := by
  refine Nat.le_trans (flat_len_le (m := fun x => x.2.length) _ fun x _ => longOf_len x.2) ?_
  rw [(grp_sum f L).1]
  exact Nat.le_refl _
theorem grp_ne {κ : Type} [DecidableEq κ] (f : Row → κ) (L : List Row) : ∀ x ∈ grp f L, ∃ r T, x.2 = r :: T ∧ f r = x.1 ∧ r ∈ L := by
  intro x hx
  have h1 := grp_mem f L x hx
  obtain ⟨r, hr, e⟩ := ((grp_keys f L).2 x.1).mp (List.mem_map.mpr ⟨x, hx, rfl⟩)
  cases q : x.2 with
  | nil =>
    rw [q] at h1
    have := (List.mem_filter (p := fun r => decide (f r = x.1))).mpr ⟨hr, decide_eq_true e⟩
    rw [← h1] at this
    cases this
  | cons a T =>
    rw [q] at h1
    have := List.mem_cons_self (a := a) (l := T)
    rw [h1] at this
    obtain ⟨z1, z2⟩ := List.mem_filter.mp this
    exact ⟨a, T, rfl, of_decide_eq_true z2, z1⟩
theorem St.dT {H : Hp} {d : Addr} {kvs : List (List Key × V)} {o : HO} (h : H d = some (.dT kvs)) : St H (upd H d o) := fun a u e z => by
  have : a ≠ d := fun w => by
    rw [w, h] at e
    cases e
    exact dT_st kvs z
  rw [upd_ne this]
  exact e
section
variable {κ α : Type} [DecidableEq κ] {N : Addr → Prop} {mk : List (κ × V) → HO} {P : α → V → Hp → Prop} {d : Addr} {G : List (κ × List α)} {H : Hp}
theorem Grp.put {D1 : Addr} {o : HO} (hP : ∀ a v H H', St H H' → P a v H → P a v H') (g : Grp N mk P d G H) (h1 : d ≠ D1) (h2 : ∀ l, N l → l ≠ D1) (s : St H (upd H D1 o)) : Grp N mk P d G (upd H D1 o) := by
  obtain ⟨T, t, e⟩ := g
  refine ⟨T, ⟨by rw [upd_ne h1]; exact t.at_, fun x hx => ?_, t.ks, t.ad, t.nw⟩, e⟩
  obtain ⟨vs, q1, q2⟩ := t.ls x hx
  exact ⟨vs, by rw [upd_ne (h2 _ (t.nw x hx))]; exact q1, q2.map fun a v z => hP a v _ _ s z⟩
end
theorem cut2 {x y : V} {xs : List V} : cutV (x :: y :: xs) (some 2) none = xs := cutV_from (k := 2) (by show 2 ≤ xs.length + 1 + 1; omega)
theorem not_whole2 {x y z : V} {xs : List V} : ¬ (HT.sIx (x :: y :: z :: xs).length 0 (some 2) = 0 ∧ HT.sIx (x :: y :: z :: xs).length (x :: y :: z :: xs).length none = (x :: y :: z :: xs).length) := fun h => by
  have h := h.1
  rw [show (2 : Int) = ((2 : Nat) : Int) from rfl, HT.sIx_nat, Nat.min_eq_left (by show 2 ≤ xs.length + 1 + 1 + 1; omega)] at h
  cases h
theorem St.frz {H : Hp} {d : Addr} {od : Obj} {u o : HO} (h : H d = some (.frz od u)) : St H (upd H d o) := fun a v e z => by
  have : a ≠ d := fun w => by
    rw [w, h] at e
    cases e
    rcases z with ⟨_, _, _, z⟩ | ⟨_, z⟩ <;> cases z
  rw [upd_ne this]
  exact e
/-- one group more -/
theorem flat_at {α β : Type} (F : α → List β) {G : List α} {i : Nat} {x : α} (h : G[i]? = some x) : (G.take (i + 1)).flatMap F = (G.take i).flatMap F ++ F x := by
  rw [List.take_succ, h, List.flatMap_append]
  show _ ++ [x].flatMap F = _
  rw [List.flatMap_cons, List.flatMap_nil, List.append_nil]
theorem sum_mem {α : Type} {m : α → Nat} : ∀ {xs : List α} {x : α}, x ∈ xs → m x ≤ (xs.map m).sum
  | y :: xs, x, h => by
    rw [List.map_cons, List.sum_cons]
    rcases List.mem_cons.mp h with rfl | h
    · exact Nat.le_add_right _ _
    · exact Nat.le_trans (sum_mem h) (Nat.le_add_left _ _)
theorem upd_comm {H : Hp} {a b : Addr} {o u : HO} (h : a ≠ b) : upd (upd H a o) b u = upd (upd H b u) a o := by
  funext c
  by_cases e1 : c = a
  · subst e1
    rw [upd_ne h, upd_same, upd_same]
  · by_cases e2 : c = b
    · subst e2
      rw [upd_same, upd_ne e1, upd_same]
    · rw [upd_ne e2, upd_ne e1, upd_ne e1, upd_ne e2]
theorem GrpT.val_at {κ α : Type} [DecidableEq κ] {N : Addr → Prop} {mk : List (κ × V) → HO} {P : α → V → Hp → Prop} {d : Addr} {T : List (κ × Addr × List α)} {H : Hp} (g : GrpT N mk P d T H) {x : κ × Addr × List α} (hx : x ∈ T) : valV (T.map fun x => (x.1, V.ref x.2.1)) x.1 = some (.ref x.2.1) := by
  obtain ⟨l, vs, rs, hv, _, _, hm⟩ := g.val (List.mem_map.mpr ⟨x, hx, rfl⟩)
  have := nd_inj g.ks hm hx rfl
  rw [← this]
  rw [← this] at hv
  exact hv
theorem DGet.tf {H : Hp} {a b : Addr} {od : Obj} {kvs : List (List Key × V)} {k : List Key} {v : V} (e : H a = some (.frz od (.dT kvs))) (eb : H b = some (.tup (k.map kV))) (hv : valV kvs k = some v) : DGet H a (.ref b) (some v) := .inr ⟨kvs, k, b, .inr ⟨od, e⟩, rfl, eb, hv.symm⟩
theorem al_map {α β : Type} {f : α → β} {P : β → V → Hp → Prop} {H : Hp} {as : List α} {vs : List V} (h : Al (fun a v H => P (f a) v H) H as vs) : Al P H (as.map f) vs := by
  induction h with
  | nil => exact .nil
  | cons h t ih => exact .cons h ih
end Mo

namespace Mo
open PySem L2
open Evl (Ex)
/-! ### the least turn of a ring -/
theorem eqvAll_ints : ∀ xs ys : List Int, PyData.eqvAll (xs.map PyData.int) (ys.map PyData.int) = decide (xs = ys)
  | [], [] => by simp [PyData.eqvAll]
  | [], y :: ys => by simp [PyData.eqvAll]
  | x :: xs, [] => by simp [PyData.eqvAll]
  | x :: xs, y :: ys => by
    rw [List.map_cons, List.map_cons, PyData.eqvAll, eqvAll_ints xs ys, PyData.eqv, Bool.eq_iff_iff]
    simp
theorem eqv_int2 (xs ys : List Int) : PyData.eqv (dInts xs) (dInts ys) = decide (xs = ys) := by
  unfold dInts
  rw [PyData.eqv]
  exact eqvAll_ints xs ys
theorem shaped_int2 (xs : List Int) : SeqAt.shaped (dInts xs) = true := PySem.W.ke_shaped_ints xs
/-- turned by m it is the same -/
def Rot {α : Type} (ks : List α) (m : Nat) : Prop := ks.length % m = 0 ∧ ks.drop m ++ ks.take m = ks
structure LTurn {α : Type} (ks : List α) (m : Nat) : Prop where
  pos : 0 < m
  rot : Rot ks m
  least : ∀ j, 0 < j → j < m → ¬ Rot ks j
theorem map_inj_on {α : Type} {f : α → Int} {ks : List α} (hf : ∀ x ∈ ks, ∀ y ∈ ks, f x = f y → x = y) : ∀ {as bs : List α}, (∀ x ∈ as, x ∈ ks) → (∀ x ∈ bs, x ∈ ks) → as.map f = bs.map f → as = bs
  | [], [], _, _, _ => rfl
  | [], _ :: _, _, _, h => by cases h
  | _ :: _, [], _, _, h => by cases h
  | a :: as, b :: bs, ha, hb, h => by
    rw [List.map_cons, List.map_cons] at h
    injection h with h1 h2
    rw [hf a (ha a List.mem_cons_self) b (hb b List.mem_cons_self) h1, map_inj_on hf (fun x hx => ha x (List.mem_cons_of_mem _ hx)) (fun x hx => hb x (List.mem_cons_of_mem _ hx)) h2]
theorem rot_map {α : Type} {f : α → Int} {ks : List α} (hf : ∀ x ∈ ks, ∀ y ∈ ks, f x = f y → x = y) (m : Nat) : (ks.map f).drop m ++ (ks.map f).take m = ks.map f ↔ ks.drop m ++ ks.take m = ks := by
  rw [← List.map_drop, ← List.map_take, ← List.map_append]
  constructor
  · intro h
    refine map_inj_on hf (fun x hx => ?_) (fun x hx => hx) h
    rcases List.mem_append.mp hx with hx | hx
    · exact List.mem_of_mem_drop hx
    · exact List.mem_of_mem_take hx
  · intro h
    rw [h]
/-- numbers of keys: each its own -/
structure Nums (kvs : List (List Key × V)) (seen : List (List Key)) : Prop where
  has : ∀ k ∈ seen, ∃ n : Nat, valV kvs k = some (.int n)
  small : ∀ k v, valV kvs k = some v → ∃ n : Nat, n < kvs.length ∧ v = .int n
  inj : ∀ k j v, valV kvs k = some v → valV kvs j = some v → k = j
  len : kvs.length ≤ seen.length
theorem Nums.zero : Nums [] [] := { has := fun k h => (nomatch h), small := fun k v h => (nomatch h), inj := fun k j v h => (nomatch h), len := Nat.le_refl _ }
theorem Nums.old {kvs : List (List Key × V)} {seen : List (List Key)} {k : List Key} {v : V} (h : Nums kvs seen) (e : valV kvs k = some v) : Nums kvs (seen ++ [k]) := by
  refine ⟨fun j hj => ?_, h.small, h.inj, by rw [List.length_append]; exact Nat.le_add_right_of_le h.len⟩
  rcases List.mem_append.mp hj with hj | hj
  · exact h.has j hj
  · rw [List.mem_singleton.mp hj]
    obtain ⟨n, _, rfl⟩ := h.small k v e
    exact ⟨n, e⟩
theorem Nums.new {kvs : List (List Key × V)} {seen : List (List Key)} {k : List Key} (h : Nums kvs seen) (e : valV kvs k = none) : Nums (putK kvs k (.int (kvs.length : Nat))) (seen ++ [k]) := by
  have el := putK_new (.int (kvs.length : Nat)) e
  have ll : (putK kvs k (.int (kvs.length : Nat))).length = kvs.length + 1 := by rw [el, List.length_append]; rfl
  refine ⟨fun j hj => ?_, fun j v hv => ?_, fun i j v hi hj => ?_, by rw [ll, List.length_append, List.length_singleton]; have := h.len; omega⟩
  · rw [valV_put]
    by_cases q : j = k
    · rw [if_pos q]
      exact ⟨_, rfl⟩
    · rw [if_neg q]
      rcases List.mem_append.mp hj with hj | hj
      · exact h.has j hj
      · exact absurd (List.mem_singleton.mp hj) q
  · rw [valV_put] at hv
    by_cases q : j = k
    · rw [if_pos q] at hv
      exact ⟨kvs.length, by omega, (Option.some.inj hv).symm⟩
    · rw [if_neg q] at hv
      obtain ⟨n, h1, h2⟩ := h.small j v hv
      exact ⟨n, by omega, h2⟩
  · rw [valV_put] at hi hj
    by_cases q : i = k
    · by_cases q' : j = k
      · rw [q, q']
      · rw [if_pos q] at hi
        rw [if_neg q'] at hj
        obtain ⟨n, h1, h2⟩ := h.small j v hj
        rw [← Option.some.inj hi] at h2
        injection h2 with h2
        omega
    · by_cases q' : j = k
      · rw [if_neg q] at hi
        rw [if_pos q'] at hj
        obtain ⟨n, h1, h2⟩ := h.small i v hi
        rw [← Option.some.inj hj] at h2
        injection h2 with h2
        omega
      · rw [if_neg q] at hi
        rw [if_neg q'] at hj
        exact h.inj i j v hi hj
/-- the number of a key -/
def numOf (kvs : List (List Key × V)) (k : List Key) : Int :=
  match valV kvs k with
  | some (.int n) => n
  | _ => 0
theorem Nums.num {kvs : List (List Key × V)} {seen : List (List Key)} (h : Nums kvs seen) {k : List Key} (hk : k ∈ seen) : valV kvs k = some (.int (numOf kvs k)) := by
  obtain ⟨n, e⟩ := h.has k hk
  unfold numOf
  rw [e]
theorem Nums.inj_on {kvs : List (List Key × V)} {seen : List (List Key)} (h : Nums kvs seen) : ∀ x ∈ seen, ∀ y ∈ seen, numOf kvs x = numOf kvs y → x = y := fun x hx y hy e => by
  have h1 := h.num hx
  rw [e] at h1
  exact h.inj x y _ h1 (h.num hy)
/-- small numbers -/
def SmR (k : Nat) (r : Row) : Prop := ∀ x ∈ r, Sm k x
/-- a row moved by a time -/
def mv (n : Int) (r : Row) : Row := [r.getD 0 0 + n, r.getD 1 0 + n, r.getD 2 0 + n, r.getD 3 0 + n, r.getD 4 0]
theorem getD_at {α : Type} {l : List α} {i : Nat} {x d : α} (h : l[i]? = some x) : l.getD i d = x := by
  rw [List.getD_eq_getElem?_getD, h]
  rfl
/-! ### the form of a tune -/
/-- the time that brings n into [0, S) -/
def hm (S n : Int) : Int := -(S * n.fdiv S)
theorem hm_eq {S n : Int} (hS : 0 < S) : hm S n = n % S - n := by
  unfold hm
  rw [Int.fdiv_eq_ediv_of_nonneg _ (Int.le_of_lt hS)]
  have := Int.emod_add_mul_ediv n S
  omega
def homeL (S : Int) (L : List Row) : List Row := L.map fun r => mv (hm S (r.getD 2 0)) r
def ringL (S : Int) (L : List Row) : List Row := L.map fun r => mv (hm S (r.getD 0 0)) r
theorem sm_div {k : Nat} {S n : Int} (hS : 0 < S) (s : Sm k n) : Sm k (n.fdiv S) := by
  refine s.le ?_
  rw [Int.fdiv_eq_ediv_of_nonneg _ (Int.le_of_lt hS)]
  exact Int.natAbs_ediv_le_natAbs _ _
theorem sm_hm {k : Nat} {S n : Int} (hS : 0 < S) (s : Sm k n) (sS : Sm k S) : Sm (k + 1) (hm S n) := by
  rw [hm_eq hS]
  refine Sm.sub ?_ s
  refine sS.le ?_
  have h1 := Int.emod_nonneg n (Int.ne_of_gt hS)
  have h2 := Int.emod_lt_of_pos n hS
  omega
theorem SmR.mv {k : Nat} {n : Int} {r : Row} (h : ∀ i, Sm k (r.getD i 0)) (s : Sm k n) : SmR (k + 1) (mv n r) := by
  intro x hx
  unfold Mo.mv at hx
  simp only [List.mem_cons, List.not_mem_nil, or_false] at hx
  rcases hx with rfl | rfl | rfl | rfl | rfl
  · exact (h 0).add s
  · exact (h 1).add s
  · exact (h 2).add s
  · exact (h 3).add s
  · exact (h 4).mono (Nat.le_succ k)
theorem SmR.at_ {k : Nat} (hk : 0 < k) {r : Row} (h : SmR k r) (i : Nat) : Sm k (r.getD i 0) := by
  rw [List.getD_eq_getElem?_getD]
  cases q : r[i]? with
  | none =>
    show (0 : Int).natAbs < 2 ^ k
    exact Nat.pow_pos (by decide)
  | some x => exact h x (List.mem_of_getElem? q)
theorem united_sm {k : Nat} (hk : 0 < k) {L : List Row} (h : ∀ r ∈ L, SmR k r) : ∀ r ∈ united L, SmR k r := by
  suffices hh : ∀ (L D : List Row), (∀ r ∈ L, SmR k r) → (∀ r ∈ D, SmR k r) → ∀ r ∈ L.foldl ust D, SmR k r from hh L [] h fun r hr => (nomatch hr)
  intro L
  induction L with
  | nil => intro D _ hD; exact hD
  | cons r L ih =>
    intro D hL hD
    refine ih (ust D r) (fun q hq => hL q (List.mem_cons_of_mem _ hq)) fun q hq => ?_
    have hr := hL r List.mem_cons_self
    rcases List.eq_nil_or_concat D with rfl | ⟨D', l, rfl⟩
    · rw [ust_nil, List.mem_singleton] at hq
      rw [hq]
      exact hr
    · rw [List.concat_eq_append] at *
      have hl := hD l (List.mem_append_right _ (List.mem_singleton.mpr rfl))
      rw [ust_snoc] at hq
      have a0 : ∀ r : Row, r0 r = r.getD 0 0 := fun r => by cases r <;> rfl
      have a1 : ∀ r : Row, r1 r = r.getD 1 0 := fun r => by
        cases r with
        | nil => rfl
        | cons x r => cases r <;> rfl
      split at hq
      · rcases List.mem_append.mp hq with hq | hq
        · exact hD q (List.mem_append_left _ hq)
        · rw [List.mem_singleton.mp hq]
          intro x hx
          rcases List.mem_cons.mp hx with rfl | hx
          · rw [a0]
            exact hl.at_ hk 0
          · rw [List.mem_singleton.mp hx, a1, a1]
            by_cases z : l.getD 1 0 ≤ r.getD 1 0
            · rw [Int.max_eq_right z]
              exact hr.at_ hk 1
            · rw [Int.max_eq_left (by omega)]
              exact hl.at_ hk 1
      · rcases List.mem_append.mp hq with hq | hq
        · exact hD q hq
        · rw [List.mem_singleton.mp hq]
          exact hr
theorem long_sm {κ : Type} [DecidableEq κ] {k : Nat} (hk : 0 < k) {f : Row → κ} {L : List Row} (h : ∀ r ∈ L, SmR k r) : ∀ r ∈ long f L, SmR k r := by
  intro r hr
  obtain ⟨x, hx, hr⟩ := List.mem_flatMap.mp hr
  obtain ⟨r', T, e, _, hL⟩ := grp_ne f L x hx
  have hg := grp_mem f L x hx
  unfold longOf at hr
  obtain ⟨q, hq, rfl⟩ := List.mem_map.mp hr
  have hq2 : SmR k q := by
    refine united_sm hk (fun z hz => ?_) q hq
    have hz := (asc_perm _).mem_iff.mp hz
    obtain ⟨w, hw, rfl⟩ := List.mem_map.mp hz
    rw [hg] at hw
    have hs := h w (List.mem_filter.mp hw).1
    have a0 : ∀ r : Row, r0 r = r.getD 0 0 := fun r => by cases r <;> rfl
    have a1 : ∀ r : Row, r1 r = r.getD 1 0 := fun r => by
      cases r with
      | nil => rfl
      | cons x r => cases r <;> rfl
    intro y hy
    rcases List.mem_cons.mp hy with rfl | hy
    · rw [a0]
      exact hs.at_ hk 0
    · rw [List.mem_singleton.mp hy, a1]
      exact hs.at_ hk 1
  intro y hy
  rcases List.mem_append.mp hy with hy | hy
  · exact hq2 y hy
  · rw [e] at hy
    exact h r' hL y (List.mem_of_mem_drop hy)
theorem sub_size {L : List Row} {S : Int} {i : Nat} {k : Nat} (hk : 0 < k) (hS : 0 < S) (sS : Sm k S) (h : ∀ r ∈ L, SmR k r) : ∀ r ∈ L.map (fun r => mv (hm S (r.getD i 0)) r), SmR (k + 2) r := by
  intro r hr
  obtain ⟨q, hq, rfl⟩ := List.mem_map.mp hr
  exact SmR.mv (fun j => ((h q hq).at_ hk j).mono (by omega)) (sm_hm hS ((h q hq).at_ hk i) sS)
theorem sm_small {k : Nat} {n : Int} (h : -1000000 ≤ n ∧ n ≤ 1000000) (hk : 20 ≤ k := by decide) : Sm k n := Sm.mono (k := 20) (by unfold Sm; omega) hk
def nt' (U n : Int) : Int := n.fdiv (sg n U)
def nb' (U n : Int) : Int := U.fdiv (sg n U)
theorem nt_nb {U n : Int} (hU : 0 < U) : nt' U n * U = n * nb' U n ∧ 0 < nb' U n ∧ Int.gcd (nt' U n) (nb' U n) = 1 := let N := norm_mk (n := n) (Int.ne_of_gt hU); ⟨N.eq, N.pos, N.gcd⟩
end Mo

namespace Mo
open PySem L2
/-! ### united parts: what they cover -/
def Cv (t : Int) (r : Row) : Prop := r0 r ≤ t ∧ t < r1 r
structure Sep (D : List Row) : Prop where
  pos : ∀ r ∈ D, r0 r < r1 r
  gap : D.Pairwise fun x y => r1 x < r0 y
theorem ust_sep {D : List Row} {r : Row} (h : Sep D) (hr : r0 r < r1 r) (hl : ∀ l ∈ D, r0 l ≤ r0 r) :
    Sep (ust D r) ∧ (∀ l ∈ ust D r, r0 l ≤ r0 r) ∧ ∀ t, (∃ q ∈ ust D r, Cv t q) ↔ (∃ q ∈ D, Cv t q) ∨ Cv t r := by
  rcases List.eq_nil_or_concat D with rfl | ⟨D', l, rfl⟩
  · rw [ust_nil]
    refine ⟨⟨fun q hq => by rw [List.mem_singleton.mp hq]; exact hr, List.pairwise_singleton _ _⟩, fun q hq => by rw [List.mem_singleton.mp hq]; exact Int.le_refl _, fun t => by simp⟩
  · rw [List.concat_eq_append] at *
    have hlm : l ∈ D' ++ [l] := List.mem_append_right _ (List.mem_singleton.mpr rfl)
    have pl := h.pos l hlm
    have ll := hl l hlm
    obtain ⟨g1, _, g3⟩ := List.pairwise_append.mp h.gap
    rw [ust_snoc]
    by_cases c : r0 r ≤ r1 l
    · rw [if_pos c]
      have n0 : r0 [r0 l, max (r1 l) (r1 r)] = r0 l := rfl
      have n1 : r1 [r0 l, max (r1 l) (r1 r)] = max (r1 l) (r1 r) := rfl
      refine ⟨⟨fun q hq => ?_, List.pairwise_append.mpr ⟨g1, List.pairwise_singleton _ _, fun x hx y hy => ?_⟩⟩, fun q hq => ?_, fun t => ⟨fun ⟨q, hq, hc⟩ => ?_, fun hh => ?_⟩⟩
      · rcases List.mem_append.mp hq with hq | hq
        · exact h.pos q (List.mem_append_left _ hq)
        · rw [List.mem_singleton.mp hq, n0, n1]
          omega
      · rw [List.mem_singleton.mp hy, n0]
        exact g3 x hx l (List.mem_singleton.mpr rfl)
      · rcases List.mem_append.mp hq with hq | hq
        · exact hl q (List.mem_append_left _ hq)
        · rw [List.mem_singleton.mp hq, n0]
          exact ll
      · rcases List.mem_append.mp hq with hq | hq
        · exact .inl ⟨q, List.mem_append_left _ hq, hc⟩
        · rw [List.mem_singleton.mp hq] at hc
          unfold Cv at hc
          rw [n0, n1] at hc
          by_cases z : t < r1 l
          · exact .inl ⟨l, hlm, hc.1, z⟩
          · exact .inr ⟨by omega, by omega⟩
      · rcases hh with ⟨q, hq, hc⟩ | hc
        · rcases List.mem_append.mp hq with hq | hq
          · exact ⟨q, List.mem_append_left _ hq, hc⟩
          · rw [List.mem_singleton.mp hq] at hc
            refine ⟨_, List.mem_append_right _ (List.mem_singleton.mpr rfl), ?_⟩
            unfold Cv at *
            rw [n0, n1]
            omega
        · refine ⟨_, List.mem_append_right _ (List.mem_singleton.mpr rfl), ?_⟩
          unfold Cv at *
          rw [n0, n1]
          omega
    · rw [if_neg c]
      refine ⟨⟨fun q hq => ?_, List.pairwise_append.mpr ⟨h.gap, List.pairwise_singleton _ _, fun x hx y hy => ?_⟩⟩, fun q hq => ?_, fun t => ?_⟩
      · rcases List.mem_append.mp hq with hq | hq
        · exact h.pos q hq
        · rw [List.mem_singleton.mp hq]
          exact hr
      · rw [List.mem_singleton.mp hy]
        rcases List.mem_append.mp hx with hx | hx
        · have := g3 x hx l (List.mem_singleton.mpr rfl)
          omega
        · rw [List.mem_singleton.mp hx]
          omega
      · rcases List.mem_append.mp hq with hq | hq
        · exact hl q hq
        · rw [List.mem_singleton.mp hq]
          exact Int.le_refl _
      · constructor
        · rintro ⟨q, hq, hc⟩
          rcases List.mem_append.mp hq with hq | hq
          · exact .inl ⟨q, hq, hc⟩
          · rw [List.mem_singleton.mp hq] at hc
            exact .inr hc
        · rintro (⟨q, hq, hc⟩ | hc)
          · exact ⟨q, List.mem_append_left _ hq, hc⟩
          · exact ⟨r, List.mem_append_right _ (List.mem_singleton.mpr rfl), hc⟩
theorem united_sep {L : List Row} (hp : ∀ r ∈ L, r0 r < r1 r) (hs : L.Pairwise fun x y => r0 x ≤ r0 y) : Sep (united L) ∧ ∀ t, (∃ q ∈ united L, Cv t q) ↔ ∃ r ∈ L, Cv t r := by
  suffices h : ∀ (L D : List Row), (∀ r ∈ L, r0 r < r1 r) → (L.Pairwise fun x y => r0 x ≤ r0 y) → Sep D → (∀ l ∈ D, ∀ r ∈ L, r0 l ≤ r0 r) → Sep (L.foldl ust D) ∧ ∀ t, (∃ q ∈ L.foldl ust D, Cv t q) ↔ (∃ q ∈ D, Cv t q) ∨ ∃ r ∈ L, Cv t r from by
    obtain ⟨h1, h2⟩ := h L [] hp hs ⟨fun r hr => (nomatch hr), .nil⟩ fun l hl => (nomatch hl)
    refine ⟨h1, fun t => (h2 t).trans ?_⟩
    simp
  intro L
  induction L with
  | nil => intro D _ _ hD _; exact ⟨hD, fun t => by simp⟩
  | cons r L ih =>
    intro D hp hs hD hl
    obtain ⟨s1, s2⟩ := List.pairwise_cons.mp hs
    obtain ⟨u1, u2, u3⟩ := ust_sep hD (hp r List.mem_cons_self) fun l hl' => hl l hl' r List.mem_cons_self
    obtain ⟨v1, v2⟩ := ih (ust D r) (fun q hq => hp q (List.mem_cons_of_mem _ hq)) s2 u1 fun l hl' q hq => Int.le_trans (u2 l hl') (s1 q hq)
    refine ⟨v1, fun t => (v2 t).trans ?_⟩
    rw [u3 t]
    simp only [List.mem_cons, exists_eq_or_imp]
    constructor
    · rintro ((h | h) | h)
      · exact .inl h
      · exact .inr (.inl h)
      · exact .inr (.inr h)
    · rintro (h | h | h)
      · exact .inl (.inl h)
      · exact .inl (.inr h)
      · exact .inr h
/-- a stretch that is covered lies in one part -/
theorem sep_one {D : List Row} (h : Sep D) {lo hi : Int} (hlt : lo < hi) : (∀ t, lo ≤ t → t < hi → ∃ q ∈ D, Cv t q) ↔ ∃ q ∈ D, r0 q ≤ lo ∧ hi ≤ r1 q := by
  constructor
  · intro hc
    obtain ⟨q, hq, h1, h2⟩ := hc lo (Int.le_refl _) hlt
    refine ⟨q, hq, h1, Int.not_lt.mp fun z => ?_⟩
    obtain ⟨q', hq', h3, h4⟩ := hc (r1 q) (by omega) z
    -- q' begins after q ends, or is before q
    have key : ∀ {D : List Row}, (D.Pairwise fun x y => r1 x < r0 y) → q ∈ D → q' ∈ D → q = q' ∨ r1 q < r0 q' ∨ r1 q' < r0 q := by
      intro D hp
      induction hp with
      | nil => intro h; cases h
      | cons hx _ ih =>
        intro m1 m2
        rcases List.mem_cons.mp m1 with e1 | k1
        · rcases List.mem_cons.mp m2 with e2 | k2
          · exact .inl (e1.trans e2.symm)
          · rw [e1]
            exact .inr (.inl (hx q' k2))
        · rcases List.mem_cons.mp m2 with e2 | k2
          · rw [e2]
            exact .inr (.inr (hx q k1))
          · exact ih k1 k2
    rcases key h.gap hq hq' with e | e | e
    · rw [← e] at h4
      omega
    · omega
    · omega
  · rintro ⟨q, hq, h1, h2⟩ t h3 h4
    exact ⟨q, hq, by omega, by omega⟩
theorem srt_r0 {L : List Row} (hn : ∀ r ∈ L, r ≠ []) (h : Srt L) : L.Pairwise fun x y => r0 x ≤ r0 y := by
  induction h with
  | nil => exact .nil
  | @cons a L ha _ ih =>
    refine List.pairwise_cons.mpr ⟨fun b hb => ?_, ih fun r hr => hn r (List.mem_cons_of_mem _ hr)⟩
    have h1 := ha b hb
    have n1 := hn a List.mem_cons_self
    have n2 := hn b (List.mem_cons_of_mem _ hb)
    cases a with
    | nil => exact absurd rfl n1
    | cons x a =>
      cases b with
      | nil => exact absurd rfl n2
      | cons y b =>
        unfold le at h1
        rw [lt_cons] at h1
        show x ≤ y
        split at h1
        · omega
        · have := of_decide_eq_false h1
          omega
/-- the parts ps, sorted and united: a stretch is covered exactly if one part holds it -/
theorem united_covers {ps : List Row} (h : ∀ r ∈ ps, ∃ a b, r = [a, b] ∧ a < b) {lo hi : Int} (hlt : lo < hi) : (∃ q ∈ united (asc ps), r0 q ≤ lo ∧ hi ≤ r1 q) ↔ ∀ t, lo ≤ t → t < hi → ∃ r ∈ ps, Cv t r := by
  have hm : ∀ r, r ∈ asc ps ↔ r ∈ ps := fun r => (asc_perm ps).mem_iff
  have hp : ∀ r ∈ asc ps, r0 r < r1 r := fun r hr => by
    obtain ⟨a, b, rfl, h1⟩ := h r ((hm r).mp hr)
    exact h1
  obtain ⟨s1, s2⟩ := united_sep hp (srt_r0 (fun r hr e => by
    obtain ⟨a, b, e2, _⟩ := h r ((hm r).mp hr)
    rw [e] at e2
    cases e2) (asc_srt ps))
  rw [← sep_one s1 hlt]
  constructor
  · intro hh t h1 h2
    obtain ⟨r, hr, hc⟩ := (s2 t).mp (hh t h1 h2)
    exact ⟨r, (hm r).mp hr, hc⟩
  · intro hh t h1 h2
    obtain ⟨r, hr, hc⟩ := hh t h1 h2
    exact (s2 t).mpr ⟨r, (hm r).mpr hr, hc⟩
end Mo

namespace GQ
open PySem PySem.SeqAt
open AutoSeq1 (wpAny_loadPart')
open MeetsSeq MeetsSeq2 MeetsSeq3 SeqRoads2
section
variable {prog : Program} {w : World} {A : Around} {R : Result → Shared → Prop}
theorem tuple_leG (l b : Addr) (items items2 : Array Value) (n n2 : Nat) (dd dd2 : Option Addr) (sl sl2 : Array (Option Value)) (I : List Value → List Value → Shared → Prop)
    (turn : ∀ (x : Value) (xs : List Value) (y : Value) (ys : List Value) (s : Shared), I (x :: xs) (y :: ys) s → wpAny (model prog w) A.in1 (eqBool x y) (fun r s' => (r = true ∧ I xs ys s') ∨
      (r = false ∧ wpAny (model prog w) A.in1 (richCompare .LtE x y) (fun v s'' => R (.ok (.ret v)) s'') (fun e s' => R (.error e) s') s')) (fun e s' => R (.error e) s') s)
    (fin : ∀ (xs ys : List Value) (s : Shared), (xs = [] ∨ ys = []) → I xs ys s → R (.ok (.ret (.bool (decide (xs.length ≤ ys.length))))) s)
    {s : Shared} (hl1 : s.heap.get? l = some { cls := .type "tuple", dict := dd, data := .seq items n, slots := sl }) (hb1 : s.heap.get? b = some { cls := .type "tuple", dict := dd2, data := .seq items2 n2, slots := sl2 }) (h : I items.toList items2.toList s) :
    wpAny (model prog w) A.in1 (Builtin.«tuple.__le__» ⟨[.ref l, .ref b], []⟩) (FinOf prog w A R) (fun e s' => R (.error e) s') s := by
  have f2 := AutoSeq1.sub_tuple_tuple
  have h0 := h
  obtain ⟨hp, g, d, tk, os⟩ := s
  wp_walk using wpAny_loadPart' hl1, wpAny_loadPart' hb1, wpAny_forIn_list _ (fun rest b s' => b.1 = none ∧ ∃ vs ws : List Value, rest = vs.zip ws ∧ vs.length + items2.size = ws.length + items.size ∧ I vs ws s') _
  case turn =>
    rintro ⟨y, x⟩ rest b s' ⟨hb', vs, ws, hz, hlen, hI⟩
    cases vs with
    | nil => rw [List.zip_nil_left] at hz; cases hz
    | cons v vs =>
      cases ws with
      | nil => rw [List.zip_nil_right] at hz; cases hz
      | cons z ws =>
        rw [List.zip_cons_cons] at hz
        injection hz with hyx hrest
        injection hyx with hy hx
        subst hy hx
        simp only [List.length_cons] at hlen
        refine wpAny_bind (wpAny_mono (turn _ _ _ _ s' hI) (fun r s2 q => ?_) fun _ _ x => x)
        rcases q with ⟨rfl, q⟩ | ⟨rfl, q⟩
        · wp_walk
          exact ⟨rfl, vs, ws, hrest, by omega, q⟩
        · repeat (first
            | (refine wpAny_bind (m := richCompare .LtE _ _) (wpAny_mono q (fun v s3 q3 => ?_) fun _ _ x => x))
            | wp_step)
          exact q3
  case fin =>
    rintro ⟨b1, b2⟩ s' ⟨hb', vs, ws, hz, hlen, hI⟩
    simp only at hb'
    subst hb'
    have e : vs = [] ∨ ws = [] := by
      cases vs with
      | nil => exact .inl rfl
      | cons v vs =>
        cases ws with
        | nil => exact .inr rfl
        | cons z ws => cases hz
    have hR := fin vs ws s' e hI
    have hv : decide (vs.length ≤ ws.length) = decide (items.size ≤ items2.size) := by
      congr 1
      exact propext (by omega)
    rw [hv] at hR
    wp_walk
    simpa [Builtin.Tuple.tupleCompareSizes] using hR
  case h =>
    exact ⟨rfl, items.toList, items2.toList, rfl, by simp [Nat.add_comm], h0⟩
end
section
variable {prog : Program} {w : World} {A : Around} {E : Value → Shared → Prop} {s : Shared}
theorem rc_leG {l b : Addr} {items items2 : Array Value} {Q : Value → Shared → Prop} (hu : A.units < cLine) (I : List Value → List Value → Shared → Prop)
    (hl : s.heap.IsTuple l items) (hb : s.heap.IsTuple b items2)
    (turn : ∀ (x : Value) (xs : List Value) (y : Value) (ys : List Value) (s : Shared), I (x :: xs) (y :: ys) s → wpAny (model prog w) A.in1 (eqBool x y) (fun r s' => (r = true ∧ I xs ys s') ∨
      (r = false ∧ wpAny (model prog w) A.in1 (richCompare .LtE x y) (fun v s'' => v ≠ .notImplemented ∧ Q v s'') E s')) E s)
    (fin : ∀ (xs ys : List Value) (s : Shared), (xs = [] ∨ ys = []) → I xs ys s → Q (.bool (decide (xs.length ≤ ys.length))) s) (h : I items.toList items2.toList s) : wpAny (model prog w) A (richCompare .LtE (.ref l) (.ref b)) Q E s := by
  obtain ⟨⟨cls, dd, data, sl⟩, ho, hc, n, hd⟩ := id hl
  obtain ⟨⟨cls2, dd2, data2, sl2⟩, ho2, hc2, n2, hd2⟩ := id hb
  simp only at hc hd hc2 hd2
  subst hc hd hc2 hd2
  refine wpAny_richCompare_same_room (op := .LtE) ⟨_, ho, rfl⟩ ⟨_, ho2, rfl⟩ F.slot_tuple_le (call_here F.slot_tuple_le ⟨_, ho, rfl⟩ F.entry_tuple_le (F.args_tuple_le_2 _ _) ?_) hu
  exact tuple_leG (R := wants (fun v s' => v ≠ .notImplemented ∧ Q v s') E) l b items items2 n n2 dd dd2 sl sl2 I turn (fun xs ys s' e q => ⟨(fun x => nomatch x), fin xs ys s' e q⟩) ho ho2 h
end
end GQ
namespace Mo
open PySem PyProof.Rows L2
open Evl (Ex)
/-- x <= y, a truth value -/
def LeB (X : Cx) (n : Nat) (D : Bool → V → V → Hp → Prop) : Prop :=
  ∀ (A : Around) (pins : List (Addr × Obj)) (s : Shared) (σ : L2.St) (H : Hp) (x y : V) (u v : Value) (c : Bool), Sub X n A → Inv X pins σ H s → RelV x u → RelV y v → D c x y H →
    wpAny (model X.prog X.w) A (richCompare .LtE u v) (fun r s' => r = .bool c ∧ ∃ H', Inv X pins σ H' s' ∧ Ex H H') X.xe s
/-- not after, item by item -/
inductive LexE (De Dl : Bool → V → V → Hp → Prop) (H : Hp) : Bool → List V → List V → Prop where
  | nil : LexE De Dl H true [] []
  | short {y : V} {ys : List V} : LexE De Dl H true [] (y :: ys)
  | long {x : V} {xs : List V} : LexE De Dl H false (x :: xs) []
  | same {c : Bool} {x y : V} {xs ys : List V} (h : De true x y H) (t : LexE De Dl H c xs ys) : LexE De Dl H c (x :: xs) (y :: ys)
  | diff {c : Bool} {x y : V} {xs ys : List V} (h : De false x y H) (t : Dl c x y H) : LexE De Dl H c (x :: xs) (y :: ys)
theorem LexE.ex {De Dl : Bool → V → V → Hp → Prop} (me : MonB De) (ml : MonB Dl) {H H' : Hp} (e : Ex H H') {c : Bool} {xs ys : List V} (h : LexE De Dl H c xs ys) : LexE De Dl H' c xs ys := by
  induction h with
  | nil => exact .nil
  | short => exact .short
  | long => exact .long
  | same h t ih => exact .same (me _ _ _ _ _ e h) ih
  | diff h t => exact .diff (me _ _ _ _ _ e h) (ml _ _ _ _ _ e t)
def rLeG (K : PySem.W.Frag) (De Dl : Bool → V → V → Hp → Prop) : R2 := fun x y H Q => ∃ (a b : Addr) (xs ys : List V) (c : Bool), x = .ref a ∧ y = .ref b ∧ SqT K H a xs ∧ SqT K H b ys ∧ LexE De Dl H c xs ys ∧ ∀ H', Ex H H' → Q (.bl c) H'
theorem op_leG {X : Cx} {n : Nat} {De Dl : Bool → V → V → Hp → Prop} (hr : Room (n + 1) X.A) (me : MonB De) (ml : MonB Dl) (he : EqB X n De) (hl : LeB X n Dl) : OpR X (compareOp .LtE) (rLeG X.K De Dl) := by
  intro pins s σ H x y v u Q I rx ry h
  obtain ⟨a, b, xs, ys, c, rfl, rfl, ha, hb, hx, q⟩ := h
  cases rx
  cases ry
  obtain ⟨its, r1, p1, _⟩ := I.tuple ha
  obtain ⟨its2, r2, p2, _⟩ := I.tuple hb
  show wpAny _ _ (richCompare .LtE _ _) _ _ _
  have sb : Sub X n X.A.in1 := ⟨hr.in1, rfl⟩
  refine GQ.rc_leG (hr.units0) (fun us vs s' => ∃ (xs ys : List V) (H' : Hp), Vals xs us ∧ Vals ys vs ∧ Inv X pins σ H' s' ∧ Ex H H' ∧ LexE De Dl H' c xs ys) p1 p2 ?_ ?_ ⟨xs, ys, H, r1, r2, I, Ex.refl _, hx⟩
  · rintro u us v vs s1 ⟨xs, ys, H1, v1, v2, I1, e1, L⟩
    cases v1 with
    | @cons x _ xs _ ra ta =>
      cases v2 with
      | @cons y _ ys _ rb tb =>
        cases L with
        | same h t =>
          refine wpAny_mono (he X.A.in1 pins s1 σ H1 x y u v true sb I1 ra rb h) (fun r s2 z => ?_) fun _ _ z => z
          obtain ⟨rfl, H2, I2, e2⟩ := z
          exact .inl ⟨rfl, xs, ys, H2, ta, tb, I2, e1.trans e2, t.ex me ml e2⟩
        | diff h t =>
          refine wpAny_mono (he X.A.in1 pins s1 σ H1 x y u v false sb I1 ra rb h) (fun r s2 z => ?_) fun _ _ z => z
          obtain ⟨rfl, H2, I2, e2⟩ := z
          refine .inr ⟨rfl, wpAny_mono (hl X.A.in1 pins s2 σ H2 x y u v c sb I2 ra rb (ml _ _ _ _ _ e2 t)) (fun r s3 z => ?_) fun _ _ z => z⟩
          obtain ⟨rfl, H3, I3, e3⟩ := z
          exact ⟨(fun z => nomatch z), .bl c, H3, I3, rfl, q H3 ((e1.trans e2).trans e3)⟩
  · rintro us vs s1 hn ⟨xs, ys, H1, v1, v2, I1, e1, L⟩
    have lx := v1.length
    have ly := v2.length
    have hc : decide (us.length ≤ vs.length) = c := by
      rw [← lx, ← ly]
      cases L with
      | nil => rfl
      | short => simp
      | long => simp
      | same h t => rcases hn with z | z <;> (subst z; simp at lx ly)
      | diff h t => rcases hn with z | z <;> (subst z; simp at lx ly)
    rw [hc]
    exact ⟨.bl c, H1, I1, rfl, q H1 e1⟩
end Mo

namespace L2
open PySem PySem.Spec PyProof.Rows
/-! ### the values of a dict with tuple keys, walked -/
/-- .. of the locked dict at d -/
def Itvt (d : Addr) (o : Obj) (kvs : List (List Key × V)) : It where
  go := fun i H => H d = some (.frz o (.dT kvs)) ∧ i < kvs.length
  yld := fun i H x H' => H' = H ∧ ∃ k, kvs[i]? = some (k, x)
  stop := fun i H => H d = some (.frz o (.dT kvs)) ∧ kvs.length ≤ i
section
variable {X : Cx} {pins : List (Addr × Obj)} {σ : St} {H : Hp} {s : Shared} {d : Addr} {o : Obj}
/-- its raw entries, with their values -/
theorem Inv.rawT {kvs : List (List Key × V)} (I : Inv X pins σ H s) (h : H d = some (.frz o (.dT kvs))) : (d == sysModules) = false ∧ ∃ es ep, s.heap.DictRaw d es ep ∧ o.data = .dict es ep ∧ es.size = kvs.length ∧
    ∀ (i : Nat) (hi : i < es.size) (k : List Key) (v : V), kvs[i]? = some (k, v) → RelV v es[i].val := by
  obtain ⟨hd, z, hs, xs, pr, o', es, ep, ho, hx, hdt, he, _⟩ := I.hok d _ h
  rw [hd] at ho
  cases ho
  refine ⟨hs, es, ep, ⟨_, hd, hx, hdt⟩, hdt, ?_, fun i hi k v e => ?_⟩
  · rw [size_of_entries he, Paired.length pr]
  · obtain ⟨b, hb, _, _, e3⟩ := paired_get pr e
    have q := entry_at he i
    rw [hb, Array.getElem?_eq_getElem hi] at q
    rw [Option.some.inj q]
    exact e3
end
section
variable {P : Program} {w : World} {K : PySem.W.Frag} {tg : Expr} {d : Addr} {o : Obj} {es : Array DictEntry} {ep : Nat}
theorem turn_valsT {kvs : List (List Key × V)} (it : Addr) (hod : o.data = .dict es ep) : Turn P w K tg (Itvt d o kvs) [it] it (fun i h => h.IsValIter it d i kvs.length ep) where
  mem := List.mem_singleton.mpr rfl
  obj := fun i h st b hb => by
    cases List.mem_singleton.mp hb
    obtain ⟨oi, e1, e2, e3⟩ := st
    exact ⟨oi, e1, fun v z => by rw [e3] at z; cases z⟩
  keep := fun i h h' st k => st.at fun oi e1 => k it (List.mem_singleton.mpr rfl) oi e1
  self := fun A i s Q E st h => wpAny_pyIter_valiter st h
  item := by
    intro X hP hw hK hc i pins s σ H E I hf st hg
    subst hP hw hK
    obtain ⟨hd, hi⟩ := hg
    obtain ⟨p0, p1, p2, p3, p4, p5⟩ := hf it (List.mem_singleton.mpr rfl)
    obtain ⟨_, es', ep', hm, hdt, hsz, hv⟩ := I.rawT hd
    obtain ⟨rfl, rfl⟩ := dict_ep hod hdt
    have hi' : i < es'.size := by rw [hsz]; exact hi
    rw [← hsz] at st
    have hkv := List.getElem?_eq_getElem hi
    refine wpAny_pyNext_values_item_raw st hm hi' fun h' st' sb => ?_
    have I1 : Inv X pins σ H { s with heap := h' } := I.turned (t' := s.toks) (fun b ob hb e => (sb.2 b hb).trans e) p0 p1 p3 p4 p5
    obtain ⟨oi, e1, e2, e3⟩ := id st'
    rw [hsz] at st'
    exact ⟨_, rfl, go_of (s := { s with heap := h' }) e1 e2 e3 (by decide) ⟨_, H, I1, hv i hi' _ _ hkv, ⟨rfl, _, hkv⟩, st', fun b hb => (hf b hb).1⟩⟩
  done := by
    intro X hP hw hK hc i pins s σ H E I hf st hg
    subst hP hw hK
    obtain ⟨hd, hi⟩ := hg
    obtain ⟨p0, p1, p2, p3, p4, p5⟩ := hf it (List.mem_singleton.mpr rfl)
    obtain ⟨_, es', ep', hm, hdt, hsz, _⟩ := I.rawT hd
    obtain ⟨rfl, rfl⟩ := dict_ep hod hdt
    rw [← hsz] at st
    exact wpAny_pyNext_values_end_raw (I.ok.hd hc) st hm (by rw [hsz]; exact hi) fun h' eb => ⟨rfl, I.turned (t' := s.toks) (fun b ob hb e => eb b ob hb e) p0 p1 p3 p4 p5⟩
end
/-- for v in d.values(), tuple keys -/
def iValsT (td : TE) : TI := fun σ H R => td σ H fun x H1 => ∃ d o kvs, x = .ref d ∧ H1 d = some (.frz o (.dT kvs)) ∧ R (Itvt d o kvs) H1
theorem pi_valuesT {X : Cx} {tg e : Expr} {td : TE} {apos cpos : Pos} (he : PE X e td) (hbase : attributeBase e "values" X.env (eval e X.env) = eval e X.env := by rfl) (hline : (apos.endLine == cpos.line) = true := by rfl) :
    PI X tg (.Call (.Attribute e "values" apos) [] [] cpos) (iValsT td) := by
  refine ⟨fun pins s σ H R I h => wpAny_Call_method (T := "dict") (id := "dict.values") hbase rfl hline F.plainAttrs_dict F.slot_dict_values F.type_dict_values (thn (he.run pins s σ H _ I h) fun u s1 z => ?_)⟩
  obtain ⟨x, H1, I1, rx, d, o, kvs, rfl, hd, q⟩ := z
  cases rx
  obtain ⟨hs, es, ep, hm, hdt, hsz, _⟩ := I1.rawT hd
  have hdict : Shared.TypeIs s1 (.ref d) "dict" := hm.typeIs
  obtain ⟨od, ho1, ho2, ho3⟩ := id hm
  refine ⟨hdict, ?_, ?_⟩
  · intro b z
    cases z
    exact ⟨od, ho1, ho2.2.1⟩
  · have I2 : Inv X pins σ H1 { s1 with heap := s1.heap.push { cls := .type "dict_values", data := .fields #[.ref d] } } := I1.kept (t' := s1.toks) fun b ob z => Heap.get?_push_of_some _ z
    have fin : wpAny (model X.prog X.w) X.A (pyIter (.ref s1.heap.objs.size)) (PIE X pins σ tg R) X.xe { s1 with heap := s1.heap.push { cls := .type "dict_values", data := .fields #[.ref d] } } := by
      refine wpAny_pyIter_values_raw (d := d) ⟨_, Heap.get?_push_size _ rfl, rfl, rfl⟩ (hm.at fun _ z => Heap.get?_push_of_some _ z) (pi_one (tk := s1.toks) I2 _ (turn_valsT _ hdt) ⟨_, Heap.get?_push_size _ rfl, rfl, ?_⟩ q)
      rw [hsz] <;> rfl
    show wpAny _ _ (callWith cpos (.builtin "dict.values") [.ref d] [] []) _ X.xe s1
    exact method_meetsIn F.slot_dict_values F.entry_dict_values rfl (PySem.evalArgs_none ⟨rfl, hdict, F.args_dict_values_1 _, _, meets_dict_values_raw d hs, ⟨es, ep, hm⟩, fin⟩)
theorem walk_valuesT {d : Addr} {o : Obj} {kvs : List (List Key × V)} : Walk (Itvt d o kvs) kvs.length (fun H => H d = some (.frz o (.dT kvs))) (fun i H x H' => H' = H ∧ ∃ k, kvs[i]? = some (k, x)) where
  goes := fun _ _ hi q => ⟨q, hi⟩
  stops := fun _ q => ⟨q, Nat.le_refl _⟩
  yields := fun _ _ _ _ _ _ y => y
end L2

namespace Mo
open PySem L2
open Evl (Ex)
/-! ### lists by a key, merged -/
section
variable {α : Type} (key : α → Row)
def SrtK (L : List α) : Prop := L.Pairwise fun a b => le (key a) (key b)
def mrgK : List α → List α → List α
  | [], M => M
  | a :: L, [] => a :: L
  | a :: L, b :: M => if lt (key b) (key a) = true then b :: mrgK (a :: L) M else a :: mrgK L (b :: M)
termination_by L M => L.length + M.length
variable {key : α → Row}
theorem mrgK_nil {L : List α} : mrgK key L [] = L := by cases L <;> simp [mrgK]
theorem nil_mrgK {M : List α} : mrgK key [] M = M := by simp [mrgK]
theorem mrgK_cons {a b : α} {L M : List α} : mrgK key (a :: L) (b :: M) = if lt (key b) (key a) = true then b :: mrgK key (a :: L) M else a :: mrgK key L (b :: M) := by
  rw [mrgK]
theorem mrgK_perm : ∀ (L M : List α), (mrgK key L M).Perm (L ++ M)
  | [], M => by simp [nil_mrgK]
  | a :: L, [] => by simp [mrgK_nil]
  | a :: L, b :: M => by
    rw [mrgK_cons]
    split
    · exact ((mrgK_perm (a :: L) M).cons b).trans List.perm_middle.symm
    · exact (mrgK_perm L (b :: M)).cons a
termination_by L M => L.length + M.length
theorem mrgK_srt : ∀ {L M : List α}, SrtK key L → SrtK key M → SrtK key (mrgK key L M)
  | [], M, _, h => by rw [nil_mrgK]; exact h
  | a :: L, [], h, _ => by rw [mrgK_nil]; exact h
  | a :: L, b :: M, h, h' => by
    rw [mrgK_cons]
    obtain ⟨g1, g2⟩ := List.pairwise_cons.mp h
    obtain ⟨g3, g4⟩ := List.pairwise_cons.mp h'
    by_cases q : lt (key b) (key a) = true
    · rw [if_pos q]
      have hba : le (key b) (key a) := lt_asymm q
      refine List.pairwise_cons.mpr ⟨fun c hc => ?_, mrgK_srt h g4⟩
      rcases List.mem_append.mp ((mrgK_perm _ _).mem_iff.mp hc) with hc | hc
      · rcases List.mem_cons.mp hc with rfl | hc
        · exact hba
        · exact le_trans hba (g1 c hc)
      · exact g3 c hc
    · rw [if_neg q]
      have hab : le (key a) (key b) := Bool.eq_false_iff.mpr q
      refine List.pairwise_cons.mpr ⟨fun c hc => ?_, mrgK_srt g2 h'⟩
      rcases List.mem_append.mp ((mrgK_perm _ _).mem_iff.mp hc) with hc | hc
      · exact g1 c hc
      · rcases List.mem_cons.mp hc with rfl | hc
        · exact hab
        · exact le_trans hab (g3 c hc)
termination_by L M => L.length + M.length
theorem srtK_short {L : List α} (h : L.length < 2) : SrtK key L := by
  match L, h with
  | [], _ => exact .nil
  | [a], _ => exact List.pairwise_singleton _ _
  | a :: b :: L, h => simp at h; omega
/-- two sorted lists, the last of the first not after the first of the second -/
theorem srtK_app {L M : List α} {l m : α} (h : SrtK key (L ++ [l])) (h' : SrtK key (m :: M)) (hlm : le (key l) (key m)) : SrtK key (L ++ [l] ++ m :: M) := by
  obtain ⟨_, _, g3⟩ := List.pairwise_append.mp h
  obtain ⟨g4, _⟩ := List.pairwise_cons.mp h'
  refine List.pairwise_append.mpr ⟨h, h', fun x hx y hy => ?_⟩
  have h1 : le (key x) (key l) := by
    rcases List.mem_append.mp hx with hx | hx
    · exact g3 x hx l (List.mem_singleton.mpr rfl)
    · rw [List.mem_singleton.mp hx]
      exact le_refl _
  have h2 : le (key m) (key y) := by
    rcases List.mem_cons.mp hy with rfl | hy
    · exact le_refl _
    · exact g4 y hy
  exact le_trans h1 (le_trans hlm h2)
theorem srtK_id {L : List Row} : SrtK (fun r : Row => r) L ↔ Srt L := Iff.rfl
end
/-- things in an order, told by values: tuples, compared item by item -/
structure Dom (De Dl Df : Bool → V → V → Hp → Prop) where
  α : Type
  key : α → Row
  P : α → V → Hp → Prop
  st : ∀ {a : α} {v : V} {H H' : Hp}, St H H' → P a v H → P a v H'
  cp : α → α → Prop
  sym : ∀ {a b : α}, cp a b → cp b a
  lt_rd : ∀ {a b : α} {x y : V} {H : Hp}, cp a b → P a x H → P b y H → ∃ (p q : Addr) (xs ys : List V), x = .ref p ∧ y = .ref q ∧ H p = some (.tup xs) ∧ H q = some (.tup ys) ∧ Lex De Dl H (Mo.lt (key a) (key b)) xs ys
  le_rd : ∀ {a b : α} {x y : V} {H : Hp}, cp a b → P a x H → P b y H → ∃ (p q : Addr) (xs ys : List V), x = .ref p ∧ y = .ref q ∧ H p = some (.tup xs) ∧ H q = some (.tup ys) ∧ LexE De Df H (!Mo.lt (key b) (key a)) xs ys
section
variable {De Dl Df : Bool → V → V → Hp → Prop} (D : Dom De Dl Df) {K : PySem.W.Frag} {a b : D.α} {x y : V} {H : Hp} {Q : VK}
theorem Dom.ltR (h : D.cp a b) (hx : D.P a x H) (hy : D.P b y H) (k : ∀ H', Ex H H' → Q (.bl (Mo.lt (D.key a) (D.key b))) H') : rLtG K De Dl x y H Q := by
  obtain ⟨p, q, xs, ys, rfl, rfl, ep, eq, l⟩ := D.lt_rd h hx hy
  exact ⟨p, q, xs, ys, _, rfl, rfl, SqT.of ep, SqT.of eq, l, k⟩
theorem Dom.leR (h : D.cp a b) (hx : D.P a x H) (hy : D.P b y H) (k : ∀ H', Ex H H' → Q (.bl (!Mo.lt (D.key b) (D.key a))) H') : rLeG K De Df x y H Q := by
  obtain ⟨p, q, xs, ys, rfl, rfl, ep, eq, l⟩ := D.le_rd h hx hy
  exact ⟨p, q, xs, ys, _, rfl, rfl, SqT.of ep, SqT.of eq, l, k⟩
theorem Dom.ex {as : List D.α} {vs : List V} {H H' : Hp} (h : Al D.P H as vs) (e : Ex H H') : Al D.P H' as vs := h.map fun _ _ q => D.st (.of e) q
theorem Dom.sts {as : List D.α} {vs : List V} {H H' : Hp} (h : Al D.P H as vs) (e : St H H') : Al D.P H' as vs := h.map fun _ _ q => D.st e q
end
/-! ### .. of moments and ints -/
def DfM (C : Addr) : Bool → V → V → Hp → Prop := fun c x y H => (∃ i j : Int, x = .int i ∧ y = .int j ∧ c = decide (i ≤ j)) ∨ ∃ t b t' b' : Int, Mo C t b x H ∧ Mo C t' b' y H ∧ Sm 1900 t ∧ Sm 1900 b ∧ Sm 1900 t' ∧ Sm 1900 b' ∧ c = decide (t * b' ≤ t' * b)
theorem mon_DfM {C : Addr} : MonB (DfM C) := fun c x y H H' e d => by
  rcases d with d | ⟨t, b, t', b', h1, h2, h3⟩
  · exact .inl d
  · exact .inr ⟨t, b, t', b', h1.ex e, h2.ex e, h3⟩
section
variable {X : Cx} {C : Addr} {nL : Nat} {fL : Addr} {dL : FuncData}
theorem leB_M (GL : FnOk X.prog X.w X.K X.mg X.base CX0 nL fL dL ["self", "other"] (spCmp C gLe)) (hs : PySem.W.findIn X.K (.ref C) "__le__" = some (some (.ref fL))) (hf : PySem.W.isFn X.K (.ref fL) = true) (hb : Binds X.K dL ["self", "other"] []) : LeB X nL (DfM C) := by
  intro A pins s σ H x y u v c sb I rx ry d
  rcases d with ⟨i, j, rfl, rfl, rfl⟩ | ⟨t, b, t', b', hx, hy, s1, s2, s3, s4, hc⟩
  · obtain ⟨ti, rfl⟩ := rx
    obtain ⟨tj, rfl⟩ := ry
    have h : wpAny (model X.prog X.w) A (compareOp .LtE (.int i ti) (.int j tj)) (fun r s' => r = .bool (decide (i ≤ j)) ∧ ∃ H', Inv X pins σ H' s' ∧ Ex H H') X.xe s := PyProof.Rows.le_int ⟨rfl, H, I, Ex.refl _⟩
    exact h
  · obtain ⟨a, dx, rfl, ea⟩ := id hx
    obtain ⟨a', dx', rfl, ea'⟩ := id hy
    cases rx
    cases ry
    obtain ⟨mA, J, _⟩ := ins_get I.hok ea
    obtain ⟨od, J, _⟩ := J.look
    obtain ⟨mB, J', _⟩ := ins_get I.hok ea'
    obtain ⟨od', J', _⟩ := J'.look
    have run := run_any (Q := fun r H' => r = .bl c ∧ Ex H H') GL sb.room sb.fr hb pass0 I (v2rr a a') ⟨_, _, t, b, t', b', rfl, hx, .inl hy, s1, s2, s3, s4, fun H' e => ⟨by rw [hc]; rfl, e⟩⟩
    refine cmpL_K sb.room.units0 I.kIn J J'.type notFirstC (tryCmp_K I.kIn J hs hf (wpAny_mono run (fun r s' z => ?_) fun _ _ z => z))
    obtain ⟨r', H', I', rr, rfl, e⟩ := z
    cases rr
    exact ⟨rfl, H', I', e⟩
end
theorem not_lt {a b : Row} : (!lt b a) = true ↔ le a b := by
  unfold le
  cases lt b a <;> simp
theorem lexE_its {C : Addr} {U : Int} (hU : Un U) {H : Hp} : ∀ {ks : List Bool} {ns ms : List Int} {vs ws : List V}, ItsU C U H ks ns vs → ItsU C U H ks ms ws → LexE (DeM C) (DfM C) H (!lt ms ns) vs ws
  | [], _, _, _, _, .nil, .nil => .nil
  | k :: ks, n :: ns, m :: ms, _, _, .cons (v := x) h t, .cons (v := y) h' t' => by
    have de : DeM C (decide (n = m)) x y H := by
      unfold ItU at h h'
      by_cases q : k = true
      · rw [if_pos q] at h h'
        obtain ⟨⟨a, b, N, mx⟩, sx⟩ := h
        obtain ⟨⟨a', b', N', my⟩, sy⟩ := h'
        exact .inr ⟨a, b, a', b', mx, my, by rw [decide_eq_true_eq, norm_eq N N' hU.pos]⟩
      · rw [if_neg q] at h h'
        exact .inl ⟨n, m, h, h', rfl⟩
    have dl : DfM C (decide (n ≤ m)) x y H := by
      unfold ItU at h h'
      by_cases q : k = true
      · rw [if_pos q] at h h'
        obtain ⟨⟨a, b, N, mx⟩, sx⟩ := h
        obtain ⟨⟨a', b', N', my⟩, sy⟩ := h'
        refine .inr ⟨a, b, a', b', mx, my, (sz hU N sx).1, (sz hU N sx).2, (sz hU N' sy).1, (sz hU N' sy).2, ?_⟩
        have := norm_lt N' N hU.pos
        rw [decide_eq_decide]
        omega
      · rw [if_neg q] at h h'
        exact .inl ⟨n, m, h, h', rfl⟩
    rw [lt_cons]
    by_cases e : m = n
    · rw [if_pos e]
      rw [decide_eq_true e.symm] at de
      exact .same de (lexE_its hU t t')
    · rw [if_neg e]
      rw [decide_eq_false (fun z => e z.symm)] at de
      have : (!decide (m < n)) = decide (n ≤ m) := by
        rw [Bool.eq_iff_iff]
        simp
      rw [this]
      exact .diff de dl
/-- tuples of times and ints, in their order -/
def rowD (C : Addr) {U : Int} (hU : Un U) (ks : List Bool) : Dom (DeM C) (DlM C) (DfM C) where
  α := Row
  key := fun r => r
  P := fun r v H => TuU C U ks r v H
  st := fun e q => q.st e
  cp := fun _ _ => True
  sym := fun h => h
  lt_rd := fun _ hx hy => by
    obtain ⟨p, vs, rfl, ep, hv⟩ := hx
    obtain ⟨q, ws, rfl, eq, hw⟩ := hy
    exact ⟨p, q, vs, ws, rfl, rfl, ep, eq, lex_its hU hv hw⟩
  le_rd := fun _ hx hy => by
    obtain ⟨p, vs, rfl, ep, hv⟩ := hx
    obtain ⟨q, ws, rfl, eq, hw⟩ := hy
    exact ⟨p, q, vs, ws, rfl, rfl, ep, eq, lexE_its hU hv hw⟩
theorem cp_row {C : Addr} {U : Int} {hU : Un U} {ks : List Bool} {L : List Row} : L.Pairwise (rowD C hU ks).cp := List.pairwise_of_forall fun _ _ => True.intro
end Mo

namespace Mo
open PySem PySem.W PySem.Calls PyProof.Rows
section
variable {prog : Program} {w : World} {A : Around} {E : Value → Shared → Prop} {s : Shared} {K : Frag} {x C f : Addr} {ox : Obj} {od : Option Obj}
/-- u in x, by the class's own method -/
theorem in_K {u : Value} {Q : Bool → Shared → Prop} (X : K.In s.heap) (I : InstAt s.heap x ox C od) (hs : findIn K (.ref C) "__contains__" = some (some (.ref f))) (hf : isFn K (.ref f) = true)
    (h : wpAny (model prog w) A (call (.ref f) [.ref x, u]) (fun v s' => ∃ b, v = .bool b ∧ Q b s') E s) : wpAny (model prog w) A (contains (.ref x) u) Q E s := by
  unfold contains
  refine wpAny_holding (wpAny_bind (wpAny_bind (I.type.here ((looks_findIn X hs).here ?_))))
  rw [if_neg (show ¬ ((some (Value.ref f) == some Value.none) = true) from fun z => by cases eq_of_beq z)]
  unfold callSpecialUnlessNone?
  refine wpAny_bind (wpAny_bind (wpAny_bind (I.type.here ((looks_findIn X hs).here ?_))))
  refine wpAny_holding (wpAny_bind ((bind_fn X (.ref x) (beq_iff_eq.mp hf)).here ?_))
  dsimp only
  rw [if_neg (show ¬ ((Value.ref f == Value.none) = true) from fun z => by cases eq_of_beq z)]
  refine wpAny_bind (wpAny_mono h (fun v s' z => ?_) fun _ _ z => z)
  obtain ⟨b, rfl, q⟩ := z
  refine wpAny_pure (wpAny_truthy_bool q)
/-- len(x), by the class's own method -/
theorem len_K {Q : Value → Shared → Prop} (X : K.In s.heap) (I : InstAt s.heap x ox C od) (hs : findIn K (.ref C) "__len__" = some (some (.ref f))) (hf : isFn K (.ref f) = true)
    (h : wpAny (model prog w) A.in1 (call (.ref f) [.ref x]) (fun v s' => ∃ (n : Nat) (t : Tok), v = .int n t ∧ n < 1000000000 ∧ ∀ t tk, Q (.int n t) { s' with toks := tk }) E s) : wpAny (model prog w) A (call (.builtin "len") [.ref x]) Q E s := by
  refine Calls.call_function_entry kind_len plain_len entry_len (args_len1 _) ?_
  unfold Builtin.«len»
  refine wpAny_bind (m := oneArg "len" _) (wpAny_pure ?_)
  refine wpAny_bind (m := callSpecial? (.ref x) (Str.ofString "__len__")) (special_fn X I hs (beq_iff_eq.mp hf) (wpAny_mono h (fun v s' q => ?_) fun _ _ z => z))
  obtain ⟨n, t, rfl, hn, q⟩ := q
  refine wpAny_bind (wpAny_holding (wpAny_pure ?_))
  refine wpAny_bind (wpAny_letGo ?_)
  show wpAny _ _ (if ((n : Nat) : Int) < 0 then _ else _) _ _ _
  rw [if_neg (by omega)]
  show wpAny _ _ (if ((n : Nat) : Int) ≥ 2 ^ 63 then _ else _) _ _ _
  rw [if_neg (by omega)]
  exact wpAny_bind (wpAny_mkInt (wpAny_pure ⟨_, rfl, q _ _⟩))
end
open L2
section
variable {X : Cx} {CX : CXT} {n k : Nat} {f C : Addr} {fd : FuncData} {ps : List Str} {sp : Sp} {E : XK}
def rInO (C : Addr) (sp : Sp) (E : XK) : R2 := fun x y H Q => IsC C y H ∧ sp [y, x] H (fun v H' => ∃ b, v = .bl b ∧ Q (.bl b) H') E
theorem op_inO (hs : PySem.W.findIn X.K (.ref C) "__contains__" = some (some (.ref f))) (hf : PySem.W.isFn X.K (.ref f) = true) (F : FnOk X.prog X.w X.K X.mg X.base CX n f fd ps sp) (hr : Room n X.A) (hb : Binds X.K fd ps []) (hx : Passes CX X E) : OpR X (compareOp .In) (rInO C sp E) := by
  intro pins s σ H x y v u Q I rx ry h
  obtain ⟨⟨a, dx, fs, rfl, ha⟩, q⟩ := h
  cases ry
  obtain ⟨mA, J, _⟩ := ins_get I.hok ha
  obtain ⟨od, J, _⟩ := J.look
  refine wpAny_bind (in_K I.kIn J hs hf (wpAny_mono (run_any F hr rfl hb hx I (.cons (show RelV (V.ref a) (Value.ref a) from rfl) (.cons rx .nil)) q) (fun r s' z => ?_) fun _ _ z => z))
  obtain ⟨r', H', I', rr, b, rfl, q⟩ := z
  cases rr
  exact ⟨b, rfl, wpAny_pure ⟨.bl b, H', I', rfl, q⟩⟩
def rLenO (C : Addr) (sp : Sp) (E : XK) : List V → Hp → VK → Prop := fun vs H Q => ∃ x, vs = [x] ∧ IsC C x H ∧ sp [x] H (fun v H' => ∃ n : Nat, v = .int n ∧ n < 1000000000 ∧ Q (.int n) H') E
theorem call_lenO (hs : PySem.W.findIn X.K (.ref C) "__len__" = some (some (.ref f))) (hf : PySem.W.isFn X.K (.ref f) = true) (F : FnOk X.prog X.w X.K X.mg X.base CX n f fd ps sp) (hr : Room (n + 1) X.A) (hb : Binds X.K fd ps []) (hx : Passes CX X E) : CallR X (.builtin "len") (rLenO C sp E) := by
  intro pins s σ H vs us Q I r h
  obtain ⟨x, rfl, ⟨a, dx, fs, rfl, ha⟩, q⟩ := h
  obtain ⟨u, rfl, ru⟩ := vals1 r
  cases ru
  obtain ⟨mA, J, _⟩ := ins_get I.hok ha
  obtain ⟨od, J, _⟩ := J.look
  refine len_K I.kIn J hs hf (wpAny_mono (run_any F hr.in1 rfl hb hx I (v1r a) q) (fun r s' z => ?_) fun _ _ z => z)
  obtain ⟨r', H', I', rr, n, rfl, hn, q⟩ := z
  obtain ⟨t, rfl⟩ := rr
  exact ⟨n, t, rfl, hn, fun t tk => ⟨.int n, H', I'.tok tk, ⟨t, rfl⟩, q⟩⟩
end
end Mo
namespace Mo
open PySem L2
open Evl (Ex)
/-! ### tuples of ints, lists of them -/
def TuI (ns : List Int) (v : V) (H : Hp) : Prop := ∃ p, v = .ref p ∧ H p = some (.tup (ns.map V.int))
theorem TuI.st {ns : List Int} {v : V} {H H' : Hp} (e : St H H') (h : TuI ns v H) : TuI ns v H' := let ⟨p, h1, h2⟩ := h; ⟨p, h1, e _ _ h2 (.inr ⟨_, rfl⟩)⟩
theorem TuI.ex {ns : List Int} {v : V} {H H' : Hp} (h : TuI ns v H) (e : Ex H H') : TuI ns v H' := h.st (.of e)
def LoI (L : List (List Int)) (v : V) (H : Hp) : Prop := ∃ a vs, v = .ref a ∧ H a = some (.lst vs) ∧ Al TuI H L vs
theorem alI_ex {L : List (List Int)} {vs : List V} {H H' : Hp} (h : Al TuI H L vs) (e : Ex H H') : Al TuI H' L vs := h.map fun _ _ q => q.ex e
theorem alI_st {L : List (List Int)} {vs : List V} {H H' : Hp} (h : Al TuI H L vs) (e : St H H') : Al TuI H' L vs := h.map fun _ _ q => q.st e
theorem LoI.ex {L : List (List Int)} {v : V} {H H' : Hp} (h : LoI L v H) (e : Ex H H') : LoI L v H' := let ⟨a, vs, h1, h2, h3⟩ := h; ⟨a, vs, h1, e _ _ h2, alI_ex h3 e⟩
def dTup (ns : List Int) : PyData := .tuple (ns.map PyData.int)
theorem eqv_tup (xs ys : List Int) : PyData.eqv (dTup xs) (dTup ys) = decide (xs = ys) := by
  unfold dTup
  rw [PyData.eqv]
  exact eqvAll_ints xs ys
theorem lay_ints : ∀ ns : List Int, PyData.canLayAll0 (ns.map PyData.int) = true ∧ PyData.depthAll (ns.map PyData.int) ≤ 1
  | [] => by simp [PyData.canLayAll0, PyData.depthAll]
  | n :: ns => by
    have := lay_ints ns
    simp [PyData.canLayAll0, PyData.depthAll, PyData.canLay0, PyData.depth, this.1]
    exact this.2
theorem lay_tup (ns : List Int) : (dTup ns).canLay0 = true ∧ (dTup ns).depth ≤ 2 := by
  have := lay_ints ns
  unfold dTup
  simp only [PyData.canLay0, PyData.depth, this.1, true_and]
  omega
theorem shaped_tup (ns : List Int) : SeqAt.shaped (dTup ns) = true := by
  have := lay_tup ns
  unfold SeqAt.shaped
  rw [this.1, Bool.true_and, decide_eq_true_eq]
  omega
theorem lay_tups : ∀ L : List (List Int), PyData.canLayAll0 (L.map dTup) = true ∧ PyData.depthAll (L.map dTup) ≤ 2
  | [] => by simp [PyData.canLayAll0, PyData.depthAll]
  | n :: ns => by
    have h1 := lay_tups ns
    have h2 := lay_tup n
    simp only [List.map_cons, PyData.canLayAll0, PyData.depthAll, h1.1, h2.1, Bool.and_self, true_and]
    omega
theorem shaped_tups (L : List (List Int)) : SeqAt.shaped (.list (L.map dTup)) = true := by
  have h1 := lay_tups L
  have h2 : (PyData.list (L.map dTup)).canLay0 = true ∧ (PyData.list (L.map dTup)).depth ≤ 3 := by
    simp only [PyData.canLay0, PyData.depth, h1.1, true_and]
    omega
  unfold SeqAt.shaped
  rw [h2.1, Bool.true_and, decide_eq_true_eq]
  omega
theorem dp_intsI {K : PySem.W.Frag} {H : Hp} : ∀ ns : List Int, DpAll K H (ns.map V.int) (ns.map PyData.int)
  | [] => .nil
  | n :: ns => .cons (.int n) (dp_intsI ns)
theorem TuI.dp {K : PySem.W.Frag} {ns : List Int} {v : V} {H : Hp} (h : TuI ns v H) : Dp K H v (dTup ns) := by
  obtain ⟨p, rfl, e⟩ := h
  exact .tup (SqT.of e) (dp_intsI ns)
theorem LoI.dp {K : PySem.W.Frag} {L : List (List Int)} {v : V} {H : Hp} (h : LoI L v H) : Dp K H v (.list (L.map dTup)) := by
  obtain ⟨a, vs, rfl, e, h⟩ := h
  refine .lst (SqL.of e) ?_
  clear e
  induction h with
  | nil => exact .nil
  | cons h t ih => exact .cons h.dp ih
theorem any_tups (L : List (List Int)) (ns : List Int) : ((L.map dTup).any fun z => PyData.eqv z (dTup ns)) = decide (ns ∈ L) := by
  rw [List.any_map, Bool.eq_iff_iff]
  simp only [List.any_eq_true, Function.comp, eqv_tup, decide_eq_true_eq]
  exact ⟨fun ⟨x, hx, e⟩ => e ▸ hx, fun h => ⟨ns, h, rfl⟩⟩
theorem in_rd {K : PySem.W.Frag} {x y : V} {L : List (List Int)} {ns : List Int} {H : Hp} {Q : VK} (hx : TuI ns x H) (hy : LoI L y H) (k : Q (.bl (decide (ns ∈ L))) H) : rInD K x y H Q :=
  ⟨_, _, hx.dp, hy.dp, shaped_tup ns, shaped_tups L, by rw [any_tups]; exact k⟩
theorem notin_rd {K : PySem.W.Frag} {x y : V} {L : List (List Int)} {ns : List Int} {H : Hp} {Q : VK} (hx : TuI ns x H) (hy : LoI L y H) (k : Q (.bl (!decide (ns ∈ L))) H) : rNotInD K x y H Q :=
  ⟨_, _, hx.dp, hy.dp, shaped_tup ns, shaped_tups L, by rw [any_tups]; exact k⟩
end Mo

namespace Mo
open PySem PySem.W PySem.Calls PyProof.Rows
section
variable {M : Model} {A : Around} {E : Value → Shared → Prop} {s : Shared} {pos : Pos} {x C : Addr} {first : List Value} {Q : Value → Shared → Prop}
/-- a call of an own instance: the arguments, then the call -/
theorem co_callWith {args : List (Bool × Sem Value)} {keywords : List (Option Str × Sem Value)} (hplain : (args.any (·.1) || keywords.any (·.1.isNone)) = false)
    (h : wpAny M A (evalArgs (.ref x) true args keywords) (fun a s₁ => (∃ ox od, ox.data = .plain ∧ InstAt s₁.heap x ox C od) ∧ wpAny M A (call (.ref x) (first ++ a.pos) a.kw) Q E s₁) E s) : wpAny M A (callWith pos (.ref x) first args keywords) Q E s := by
  unfold callWith
  refine wpAny_bind (wpAny_holding (wpAny_mono h (fun a s₁ h₁ => wpAny_bind (wpAny_standAt ?_)) fun _ _ y => y))
  obtain ⟨⟨ox, od, hd, I⟩, h₁⟩ := h₁
  have L := kco_keeper (M := M) I hd
  simp only [hplain]
  refine wpAny_bind (L.here ?_)
  have tail : ∀ {t : Sem Value}, wpAny M A t Q E s₁ → wpAny M A (t >>= fun r => holding [r] point >>= fun _ => pure r) Q E s₁ :=
    fun ht => wpAny_bind (wpAny_mono ht (fun r s₂ hr => wpAny_bind (wpAny_holding (wpAny_point (wpAny_pure hr)))) fun _ _ y => y)
  exact tail (wpAny_operateT h₁)
end
open L2
section
variable {X : Cx} {CX : CXT} {n : Nat} {f C : Addr} {fd : FuncData} {ps : List Str} {sp : Sp} {E : XK} {e : Expr} {es : List Expr} {x : Str} {p pos : Pos} {tn : TE} {t : TA}
/-- x(e, ..), x an own instance whose class has __call__ -/
def tCallO (C : Addr) (sp : Sp) (E : XK) (tn : TE) (t : TA) : TE := fun σ H Q => tn σ H fun y H1 => ∃ a, y = .ref a ∧ t σ H1 fun vs H2 => IsC C (.ref a) H2 ∧ sp (.ref a :: vs) H2 Q E
theorem run_callO {pins : List (Addr × Obj)} {s : Shared} {σ : L2.St} {H : Hp} {a : Addr} {xs : List V} {us : List Value} {Q : VK} (hs : PySem.W.findIn X.K (.ref C) "__call__" = some (some (.ref f))) (hf : PySem.W.isFn X.K (.ref f) = true) (hfn : PySem.W.fnIn X.K f = true)
    (F : FnOk X.prog X.w X.K X.mg X.base CX n f fd ps sp) (hr : Room n X.A) (hb : Binds X.K fd ps []) (hx : Passes CX X E) (I : Inv X pins σ H s) (r : Vals xs us) (hc : IsC C (.ref a) H) (h : sp (.ref a :: xs) H Q E) : wpAny (model X.prog X.w) X.A (call (.ref a) us) (EP X pins σ Q) X.xe s := by
  obtain ⟨b, dx, fs, eb, ha⟩ := hc
  cases eb
  obtain ⟨mA, J, _⟩ := ins_get I.hok ha
  obtain ⟨od, J, _⟩ := J.look
  have r2 : Vals (V.ref a :: xs) (Value.ref a :: us) := .cons rfl r
  have hl : (Value.ref a :: us).length = ps.length := by rw [← r2.length]; exact F.len _ _ _ _ h
  have bb := hb s (Value.ref a :: us) I.kIn (by rw [List.append_nil]; exact hl)
  rw [List.append_nil] at bb
  refine wpAny_call (kco_code I.kIn J rfl hs hf hfn (codeAny_mono (F.run X.A X.stack s H ⟨Value.ref a :: us, []⟩ (Value.ref a :: us) (V.ref a :: xs) _ E hr I.env0 bb r2 h) fun res s' q => ?_))
  cases res with
  | error e => exact hx pins σ H s e s' I q
  | ok fl =>
    cases fl with
    | ret u => exact I.after q
    | next => exact q.elim
    | brk => exact q.elim
    | cont => exact q.elim
theorem pe_callO (hs : PySem.W.findIn X.K (.ref C) "__call__" = some (some (.ref f))) (hf : PySem.W.isFn X.K (.ref f) = true) (hfn : PySem.W.fnIn X.K f = true)
    (F : FnOk X.prog X.w X.K X.mg X.base CX n f fd ps sp) (hr : Room n X.A) (hb : Binds X.K fd ps []) (hx : Passes CX X E) (hn : PE X (.Name x p) tn) (ha : PA X (e :: es) t)
    (he : starEach (e :: es) X.env = (false, eval e X.env) :: starEach es X.env := by rfl) (hpl : (backTo pos (starEach es X.env)).any (·.1) = false := by rfl) : PE X (.Call (.Name x p) (e :: es) [] pos) (tCallO C sp E tn t) := by
  refine ⟨fun pins s σ H Q I h => ?_⟩
  refine wpAny_Call_Name_kw (thn (hn.run pins s σ H _ I h) fun u s1 ⟨y, H1, I1, ry, a, ey, q⟩ => ?_)
  subst ey
  obtain rfl : u = Value.ref a := ry
  show wpAny _ _ (callWith pos (.ref a) [] (backTo pos (starEach (e :: es) X.env)) []) _ _ _
  have hA := ha.run pos pins s1 σ H1 _ I1 q
  rw [he] at hA ⊢
  refine co_callWith (C := C) (by show ((false || (backTo pos (starEach es X.env)).any (·.1)) || false) = false; rw [hpl]; rfl) (evalArgs_plain (thn hA fun us s2 ⟨vs, H2, I2, rv, hc, q2⟩ => ⟨?_, run_callO hs hf hfn F hr hb hx I2 rv hc q2⟩))
  obtain ⟨b, dx, fs, eb, ha2⟩ := hc
  cases eb
  obtain ⟨mA, J, _⟩ := ins_get I2.hok ha2
  obtain ⟨od, J, _⟩ := J.look
  exact ⟨_, _, rfl, J⟩
end
section
open ClX
variable {X : Cx} {CX : CXT} {k : Nat} {C p g : Addr} {mc : Value} {fd : FuncData} {ps : List Str} {sp : Sp} {E : XK} {o : Expr} {m : Str} {pos apos : Pos} {ta : TE} {pl : Sem Bool}
/-- C.m(), m a staticmethod -/
def tSt0 (C : Addr) (sp : Sp) (E : XK) (ta : TE) : TE := fun σ H Q => ta σ H fun x H1 => x = .ref C ∧ sp [] H1 Q E
theorem pe_sm0 (he : PE X o ta) (r : CRead X.K C mc) (c : CSt X.K C mc m p g) (F : FnOk X.prog X.w X.K X.mg X.base CX k g fd ps sp) (hr : Room k X.A) (hb : Binds X.K fd ps []) (hx : Passes CX X E)
    (ht : eval (.Call (.Attribute o m apos) [] [] pos) X.env = (do
      let ov ← eval o X.env
      standAt apos.atName
      let (f, first) ← holding [ov] (getMethod ov m pl)
      callWith pos f first (backTo pos (starEach [] X.env)) (backToKw pos (keywordEach [] X.env))) := by rfl) :
    PE X (.Call (.Attribute o m apos) [] [] pos) (tSt0 C sp E ta) := by
  refine ⟨fun pins s σ H Q I h => ?_⟩
  refine PySem.W.methodCall_KW (pl := pl) (thn (he.run pins s σ H _ I h) fun u s1 ⟨x, H1, I1, rx, ex, q⟩ => ?_) ht
  subst ex
  obtain rfl : u = Value.ref C := rx
  refine PySem.W.method_cls I1.kIn r.ga (getst_ok I1 r c fun s2 I2 => ?_)
  exact PySem.W.callWith_K0 I2.kIn c.kp (run_any F hr rfl hb hx I2 .nil q)
end
end Mo

namespace GN
open PySem PySem.SeqAt GQ
open AutoSeq1 (wpAny_loadPart')
open MeetsSeq MeetsSeq2 MeetsSeq3 SeqRoads2
section
variable {P : Program} {w : World} {A : Around} {R : Result → Shared → Prop}
/-- l != m over equal items: the loop of list.__eq__ with the code of != -/
theorem ne_loop (l m : Addr) (N : Nat) (J : Nat → Shared → Prop) (hJ : ListI P w A (fun e s' => R (.error e) s') l m N J) (done : ∀ s, J N s → R (.ok (.ret (.bool false))) s) (left : Nat) :
    ∀ j : Nat, N - j = left → j ≤ N → ∀ s, J j s → wpAny (model P w) A.in1 (Builtin.«list.__eq__.loop» ⟨[.ref l, .ref m, rawInt j, rawInt 3], []⟩) (FinOf P w A R) (fun e s' => R (.error e) s') s := by
  induction left with
  | zero =>
    intro j hk hj s q
    obtain ⟨us, vs, c1, c2, a1, a2, z1, z2, _⟩ := hJ _ _ q
    have ej : j = N := by omega
    have fin : R (.ok (.ret (.bool false))) s := done s (ej ▸ q)
    obtain ⟨hp, g, d, tk, os⟩ := s
    wp_walk using wpAny_loadPart' a1, wpAny_loadPart' a2
    have w1 : us[((j : Nat) : Int).toNat]? = none := by simp; omega
    have w2 : vs[((j : Nat) : Int).toNat]? = none := by simp; omega
    rw [w1, w2]
    wp_walk using wpAny_loadPart' a1, wpAny_loadPart' a2
    show R (.ok (.ret (.bool (us.size != vs.size)))) _
    rw [z1, z2]
    simpa using fin
  | succ left ih =>
    intro j hk hj s q
    obtain ⟨us, vs, c1, c2, a1, a2, z1, z2, turn⟩ := hJ _ _ q
    have l1 : j < us.size := by omega
    have l2 : j < vs.size := by omega
    have eq2 := turn l1 l2
    obtain ⟨hp, g, d, tk, os⟩ := s
    wp_walk using wpAny_loadPart' a1, wpAny_loadPart' a2
    have w1 : us[((j : Nat) : Int).toNat]? = some us[j] := by simp [l1]
    have w2 : vs[((j : Nat) : Int).toNat]? = some vs[j] := by simp [l2]
    have nx : ((j : Int) + 1) = ((j + 1 : Nat) : Int) := by omega
    rw [w1, w2]
    refine wpAny_bind (wpAny_mono eq2 (fun r s2 y => ?_) fun _ _ z => z)
    obtain ⟨er, y⟩ := y
    subst er
    have more := ih (j + 1) (by omega) (by omega) s2 y
    obtain ⟨hp2, g2, d2, tk2, os2⟩ := s2
    wp_walk
    rw [nx]
    exact ⟨plainId_quiet plain_eq_loop _, codeAny_builtin entry_eq_loop (by rw [Around.under_plainId plain_eq_loop _]; exact more)⟩
theorem list_ne (l m : Addr) (N : Nat) (J : Nat → Shared → Prop) (hJ : ListI P w A (fun e s' => R (.error e) s') l m N J) (done : ∀ s, J N s → R (.ok (.ret (.bool false))) s) {s : Shared} (q : J 0 s) :
    wpAny (model P w) A.in1 (Builtin.«list.__ne__» ⟨[.ref l, .ref m], []⟩) (FinOf P w A R) (fun e s' => R (.error e) s') s := by
  obtain ⟨us, vs, c1, c2, a1, a2, z1, z2, _⟩ := hJ _ _ q
  have more := ne_loop (A := A) (R := R) l m N J hJ done _ 0 rfl (Nat.zero_le _) s q
  obtain ⟨hp, g, d, tk, os⟩ := s
  have sub := AutoSeq1.sub_list_list
  have nz : ¬ (us.size != vs.size) = true := by simp [z1, z2]
  wp_walk using wpAny_loadPart' a1, wpAny_loadPart' a2
  exact ⟨plainId_quiet plain_eq_loop _, codeAny_builtin entry_eq_loop (by rw [Around.under_plainId plain_eq_loop _]; exact more)⟩
end
section
variable {P : Program} {w : World} {A : Around} {E : Value → Shared → Prop} {s : Shared}
theorem rc_listN {l m : Addr} {N : Nat} {Q : Value → Shared → Prop} (hu : A.units < cLine) (J : Nat → Shared → Prop) (hJ : ListI P w A E l m N J) (done : ∀ s, J N s → Q (.bool false) s) (q : J 0 s) : wpAny (model P w) A (richCompare .NotEq (.ref l) (.ref m)) Q E s := by
  obtain ⟨us, vs, c1, c2, a1, a2, _, _, _⟩ := hJ _ _ q
  refine wpAny_richCompare_same_room (op := .NotEq) ⟨_, a1, rfl⟩ ⟨_, a2, rfl⟩ F.slot_list_ne (call_here F.slot_list_ne ⟨_, a1, rfl⟩ F.entry_list_ne (F.args_list_ne_2 _ _) ?_) hu
  exact list_ne (R := wants (fun v s' => v ≠ .notImplemented ∧ Q v s') E) l m N J hJ (fun s' y => ⟨(fun x => nomatch x), done s' y⟩) q
end
end GN
namespace Mo
open PySem L2
def rNeG (D : Eqv) : R2 := fun x y H Q => D x y H ∧ ∀ H', Ext H H' → Q (.bl false) H'
theorem op_neGL {X : Cx} {n : Nat} {D : Eqv} (hD : Mon D) (h : EqG X n D) (hr : Room (n + 1) X.A) : OpR X (compareOp .NotEq) (rNeG (DList D)) := by
  intro pins s σ H x y v u Q I rx ry hq
  obtain ⟨⟨a, b, xs, ys, rfl, rfl, ha, hb, p⟩, q⟩ := hq
  cases rx
  cases ry
  have sb : Sub X (n + 1) X.A := ⟨hr, rfl⟩
  show wpAny _ _ (richCompare .NotEq _ _) _ _ _
  refine GN.rc_listN (N := xs.length) sb.room.units0 (fun _ s' => LoopI X pins σ H s') (fun i s' z => ?_) (fun s' z => ?_) ⟨H, I, Ext.rfl'⟩
  · obtain ⟨H1, I1, e1⟩ := id z
    obtain ⟨_, us, k1, r1, g1⟩ := I1.hok a _ (e1 _ _ ha)
    obtain ⟨_, vs, k2, r2, g2⟩ := I1.hok b _ (e1 _ _ hb)
    exact ⟨us.toArray, vs.toArray, k1, k2, g1, g2, by rw [List.size_toArray, ← r1.length], by rw [List.size_toArray, ← r2.length, ← p.1], fun l1 l2 => turnG hD h sb p r1 r2 i l1 l2 s' z⟩
  · obtain ⟨H1, I1, e1⟩ := z
    exact ⟨.bl false, H1, I1, rfl, q H1 e1⟩
end Mo

namespace Mo
open PySem L2
/-! ### the head's facts, as tests -/
theorem fun_of {K : PySem.W.Frag} {x q : Str} {st : Stmt} {f : Addr} {fd : FuncData} (F : FunD K x q (defArgs st) (defBody st) (defScope st) [] [] f fd) : Fun K x q st f fd := by
  obtain ⟨oc, od, dV, kV, doc, pm, an, cdv, ct, osl, rfl, l, c, d, _⟩ := F.ex
  rcases d with ⟨_, rfl⟩ | ⟨h, _⟩
  · exact ⟨⟨oc, od, kV, doc, pm, an, cdv, ct, osl, rfl, l, c⟩, F.kp⟩
  · exact absurd rfl h
section
variable {fa : List He.Fa} {fn : List He.DefD} {fx : List Fx} {K : PySem.W.Frag}
theorem SaysX.fact (c : SaysX fa fn fx K) (i : Nat) {f : He.Fa} (h : fa[i]? = some f := by rfl) : f.ok K = true := c.1.fact i h
theorem SaysX.tst (c : SaysX fa fn fx K) (i : Nat) {f : Fx} (h : fx[i]? = some f := by rfl) : f K = true := c.2 f (List.mem_of_getElem? h)
theorem SaysX.def_ (c : SaysX fa fn fx K) (i : Nat) {d : He.DefD} (h : fn[i]? = some d := by rfl) : ∃ fd, FunD K d.name d.qual d.params d.body d.scope (d.dvs K) (d.kws K) (He.fAd K d.at_) fd := c.1.def_ i h
end
theorem b2 {a b : Bool} (h : (a && b) = true) : a = true ∧ b = true := Bool.and_eq_true_iff.mp h
/-- an own class -/
structure OwnC (K : PySem.W.Frag) (C : Addr) : Prop where
  cl : Cls K C
  cc : PySem.W.findIn K (.ref C) "__class__" = some (some (.builtin "object.__class__"))
  mo : PySem.W.mroIn K C (.type "object") = some true
  ic : PySem.W.isClsIn K C = true
  ty : PySem.W.typeIn K (.ref C) = some (.type "type")
  sf : PySem.W.selfFirst K C = true
  nI : PySem.W.subIn K (.ref C) (.type "int") = some false
  nL : PySem.W.subIn K (.ref C) (.type "list") = some false
  nD : PySem.W.subIn K (.ref C) (.type "dict") = some false
  ob : PySem.W.subIn K (.ref C) (.type "object") = some true
  ne : PySem.W.findIn K (.ref C) "__ne__" = some (some (.builtin "object.__ne__"))
theorem ownB_ok {K : PySem.W.Frag} {x : Str} (h : ownB x K = true) : OwnC K (He.ga K x) := by
  obtain ⟨h1, h⟩ := b2 h
  obtain ⟨h2, h⟩ := b2 h
  obtain ⟨h3, h⟩ := b2 h
  obtain ⟨h4, h⟩ := b2 h
  obtain ⟨h5, h⟩ := b2 h
  obtain ⟨h6, h⟩ := b2 h
  obtain ⟨h7, h⟩ := b2 h
  obtain ⟨h8, h⟩ := b2 h
  obtain ⟨h9, h⟩ := b2 h
  obtain ⟨h10, h11⟩ := b2 h
  exact ⟨He.cls_ok h1, He.eqO_ok h2, of_decide_eq_true h3, h4, of_decide_eq_true h5, h6, of_decide_eq_true h7, of_decide_eq_true h8, of_decide_eq_true h9, of_decide_eq_true h10, He.eqO_ok h11⟩
theorem hasB_ok {K : PySem.W.Frag} {x m : Str} {v : Option Value} (h : hasB x m v K = true) : PySem.W.findIn K (.ref (He.ga K x)) m = some v := He.eqO_ok h
theorem ownM_ok {K : PySem.W.Frag} {x m : Str} (h : ownM x m K = true) : PySem.W.findIn K (.ref (He.ga K x)) m = some (some (.ref (He.ma K (He.ga K x) m))) ∧ PySem.W.isFn K (.ref (He.ma K (He.ga K x) m)) = true ∧ PySem.W.keepIn K (.ref (He.ma K (He.ga K x) m)) = true := by
  obtain ⟨h1, h⟩ := b2 h
  obtain ⟨h2, h3⟩ := b2 h
  exact ⟨He.eqO_ok h1, h2, h3⟩
theorem excB_ok {K : PySem.W.Frag} {x : Str} (h : excB x K = true) : OexC K (He.ga K x) := by
  obtain ⟨h1, h⟩ := b2 h
  obtain ⟨h2, h⟩ := b2 h
  obtain ⟨h3, h⟩ := b2 h
  obtain ⟨h4, h5⟩ := b2 h
  refine ⟨?_, He.eqO_ok h2, of_decide_eq_true h3, of_decide_eq_true h4, h5⟩
  clear h2 h3 h4 h5 h
  split at h1
  · rename_i T dd cd sl ho
    split at h1
    · rename_i C' bm k0 k1 k2 k3 n k5 hm hs
      obtain ⟨g1, h1⟩ := b2 h1
      obtain ⟨g2, h1⟩ := b2 h1
      obtain ⟨g3, h1⟩ := b2 h1
      obtain ⟨g4, h1⟩ := b2 h1
      obtain ⟨g5, g6⟩ := b2 h1
      have g1 := of_decide_eq_true g1
      have g2 := of_decide_eq_true g2
      have g3 := of_decide_eq_true g3
      obtain ⟨nm, bs, mro, ns, qn, hdd, sn, sub, ab, col, del⟩ := cd
      simp only at hm g4 g5
      obtain ⟨l⟩ := sl
      simp only at hs
      subst hs hm g1 g3 g5
      have g4 : del = false := by simpa using g4
      subst g4
      rw [g2] at ho
      exact ⟨nm, qn, ns, bs, bm, sn, sub, ab, col, dd, k0, k1, k2, k3, k5, ho, g6⟩
    · cases h1
  · cases h1
end Mo

namespace Mo
open PySem L2
/-! ### static methods in the head -/
theorem isNon_ok {v : Value} (h : isNon v = true) : v = .none := by
  cases v <;> first | rfl | cases h
theorem StD.cst {K : PySem.W.Frag} {d : StD} (h : d.ok K = true) : CSt K (He.ga K d.cls) (.type "type") d.m (stP K (He.ga K d.cls) d.m) (stG K (He.ga K d.cls) d.m) := by
  obtain ⟨h1, h⟩ := b2 h
  obtain ⟨h2, _⟩ := b2 h
  refine ⟨?_, ?_, h2⟩
  · unfold stP
    split at h1
    · rename_i n p c e
      obtain ⟨g1, h1⟩ := b2 h1
      obtain ⟨g2, h1⟩ := b2 h1
      rw [e, of_decide_eq_true g1, of_decide_eq_true g2]
    · cases h1
  · unfold stG stP
    split at h1
    · rename_i n p c e
      obtain ⟨g1, h1⟩ := b2 h1
      obtain ⟨g2, h1⟩ := b2 h1
      rw [e]
      dsimp only
      split at h1
      · rename_i g rest e2
        rw [e2]
        exact ⟨rest, rfl⟩
      · cases h1
    · cases h1
theorem StD.fun_ {K : PySem.W.Frag} {d : StD} (e : fnWA K (stG K (He.ga K d.cls) d.m) = d.val) (c : d.ok K = true) : ∃ fd, Fun K d.m d.qual d.st (stG K (He.ga K d.cls) d.m) fd := by
  obtain ⟨_, c⟩ := b2 c
  obtain ⟨kp, c2⟩ := b2 c
  generalize stG K (He.ga K d.cls) d.m = a at *
  unfold fnWA at e
  cases q : K.lookup a with
  | none =>
    rw [q] at c2
    cases c2
  | some o =>
    obtain ⟨oc, od, dt, osl⟩ := o
    rw [q] at c2 e
    cases dt with
    | func fd =>
      obtain ⟨n1, n2, n3, n4, n5, n6, n7, n8, n9, n10, n11, n12, n13, n14, n15⟩ := fd
      have e2 : (some (n1, n2, n3, n4, n5, n6, n7, n15) : He.FnW) = some (d.m, d.qual, defArgs d.st, .stmts (defBody d.st), defScope d.st, mainGlobals, [], builtinsNs) := e
      simp only [Option.some.injEq, Prod.mk.injEq] at e2
      obtain ⟨h1, h2, h3, h4, h5, h6, h7, h8⟩ := e2
      subst h1 h2 h3 h4 h5 h6 h7 h8
      have c3 : (PySem.W.codeIn K n13 d.qual && isNon n8) = true := c2
      obtain ⟨k1, k2⟩ := b2 c3
      obtain rfl := isNon_ok k2
      exact ⟨_, ⟨oc, od, n9, n10, n11, n12, n13, n14, osl, rfl, q, k1⟩, kp⟩
    | _ => cases c2
/-! ### the Hook, with static methods -/
section
variable {fa : List He.Fa} {fn : List He.DefD} {fx : List Fx} {ss : List StD} {K : PySem.W.Frag}
theorem SaysS.fact (c : SaysS fa fn fx ss K) (i : Nat) {f : He.Fa} (h : fa[i]? = some f := by rfl) : f.ok K = true := c.x.fact i h
theorem SaysS.tst (c : SaysS fa fn fx ss K) (i : Nat) {f : Fx} (h : fx[i]? = some f := by rfl) : f K = true := c.x.tst i h
theorem SaysS.def_ (c : SaysS fa fn fx ss K) (i : Nat) {d : He.DefD} (h : fn[i]? = some d := by rfl) : ∃ fd, FunD K d.name d.qual d.params d.body d.scope (d.dvs K) (d.kws K) (He.fAd K d.at_) fd := c.x.def_ i h
theorem SaysS.sta (c : SaysS fa fn fx ss K) (i : Nat) {d : StD} (h : ss[i]? = some d := by rfl) : CSt K (He.ga K d.cls) (.type "type") d.m (stP K (He.ga K d.cls) d.m) (stG K (He.ga K d.cls) d.m) ∧ ∃ fd, Fun K d.m d.qual d.st (stG K (He.ga K d.cls) d.m) fd := by
  have h1 := List.all_eq_true.mp c.s d (List.mem_of_getElem? h)
  have e2 : (ss.map fun d => fnWA K (stG K (He.ga K d.cls) d.m))[i]? = (ss.map StD.val)[i]? := by rw [c.v]
  rw [List.getElem?_map, List.getElem?_map, h] at e2
  exact ⟨StD.cst h1, StD.fun_ (Option.some.inj e2) h1⟩
end
structure MomF (K : PySem.W.Frag) : Prop where
  gcd : PySem.W.nsIn K mainGlobals "gcd" = some (some (.builtin "math.gcd"))
  clg : PySem.W.specialIn K (.builtin "object.__class__") "__get__" = some (some (.builtin "getset_descriptor.__get__"))
  clt : PySem.W.takesIn K (.builtin "object.__class__") = some true
  isC : PySem.W.kitOne K (.ref (He.ga K "Moment")) (.ref (He.ga K "Moment")) = some true
  isI : PySem.W.kitOne K (.ref (He.ga K "Moment")) (.type "int") = some false
  iI : PySem.W.kitOne K (.type "int") (.ref (He.ga K "Moment")) = some false
  nL : PySem.W.kitOne K (.ref (He.ga K "Moment")) (.type "list") = some false
  nD : PySem.W.kitOne K (.ref (He.ga K "Moment")) (.type "dict") = some false
theorem momB_ok {K : PySem.W.Frag} (h : momB K = true) : MomF K := by
  obtain ⟨h1, h⟩ := b2 h
  obtain ⟨h2, h⟩ := b2 h
  obtain ⟨h3, h⟩ := b2 h
  obtain ⟨h4, h⟩ := b2 h
  obtain ⟨h5, h⟩ := b2 h
  obtain ⟨h6, h⟩ := b2 h
  obtain ⟨h7, h8⟩ := b2 h
  exact ⟨He.eqO_ok h1, He.eqO_ok h2, of_decide_eq_true h3, of_decide_eq_true h4, of_decide_eq_true h5, of_decide_eq_true h6, of_decide_eq_true h7, of_decide_eq_true h8⟩
theorem isB_ok {K : PySem.W.Frag} {x : Str} (h : isB x K = true) : PySem.W.kitOne K (.ref (He.ga K x)) (.ref (He.ga K x)) = some true := of_decide_eq_true h
theorem tyB_ok {K : PySem.W.Frag} {x m : Str} (h : tyB x m K = true) : PySem.W.typeIn K (.ref (He.ma K (He.ga K x) m)) = some (.type "function") := of_decide_eq_true h
theorem xfX_ok {K : PySem.W.Frag} {x : Str} (h : xfX x K = true) : XfC K (He.ga K x) := xfB_ok h
theorem readB_ok {K : PySem.W.Frag} {x : Str} (h : readB x K = true) : ClX.CRead K (He.ga K x) (.type "type") := by
  obtain ⟨h1, h2⟩ := b2 h
  exact ⟨h1, of_decide_eq_true h2⟩
end Mo

namespace Mo
open PySem L2
open Evl (Ex)
structure Txt (K : PySem.W.Frag) (mg : Str → Option Value) (C : Addr) : Prop where
  len : mg "len" = none
  abs : mg "abs" = none
  int : mg "int" = none
  bool : mg "bool" = none
  isi : mg "isinstance" = none
  range : mg "range" = none
  gcd : mg "gcd" = some (.builtin "math.gcd")
  mgC : mg "Moment" = some (.ref C)
  cl : Cls K C
  nT : NoAttr K C "top"
  nB : NoAttr K C "bottom"
  cls : PySem.W.findIn K (.ref C) "__class__" = some (some (.builtin "object.__class__"))
  clg : PySem.W.specialIn K (.builtin "object.__class__") "__get__" = some (some (.builtin "getset_descriptor.__get__"))
  clt : PySem.W.takesIn K (.builtin "object.__class__") = some true
  obj : PySem.W.mroIn K C (.type "object") = some true
  isC : PySem.W.kitOne K (.ref C) (.ref C) = some true
  isI : PySem.W.kitOne K (.ref C) (.type "int") = some false
  iI : PySem.W.kitOne K (.type "int") (.ref C) = some false
  lst : mg "list" = none
  dct : mg "dict" = none
  nL : PySem.W.kitOne K (.ref C) (.type "list") = some false
  nD : PySem.W.kitOne K (.ref C) (.type "dict") = some false
section
variable {P : Program} {w : World} {K : PySem.W.Frag} {mg : Str → Option Value} {base : Heap} {C CN : Addr}
abbrev sCe : Stmt := top 102
theorem scCe : FnScope ["_law_script", "_law_k"] ["_law_script", "_law_k"] (defScope sCe) := ⟨rfl, rfl, rfl, by decide +kernel, rfl, by decide +kernel, by decide +kernel⟩
theorem ok_cell {f : Addr} {fd : FuncData} (F : Fun K "_law_cell" "_law_cell" sCe f fd) (T : Txt K mg C) : FnOk P w K mg base CX0 1 f fd ["_law_script", "_law_k"] (spCell K) := by
  refine F.ok scCe (fun vs H Q E h => ?_) (fun cdv A outer s H vs Q E hr h => ?_)
  · obtain ⟨l, ns, j, rfl, _⟩ := h
    rfl
  · obtain ⟨l, ns, j, rfl, hS, h0, hl, k⟩ := h
    refine ⟨_, (pss_cons (ps_if (pt_cmpR op_lt (pv 1) (pe_callB call_len rfl T.len PySem.boot_len (pa_cons (pv 0) pa_nil)) (nomark _)) (pss_one (ps_ret (pe_ix ix_list (pv 0) (pv 1) (fun _ _ => rfl)))) pss_nil)
 (pss_one (ps_ret pe_int))), ?_⟩
    refine ⟨_, rfl, _, rfl, _, _, rfl, .inl ⟨_, hS, rfl⟩, _, _, rfl, rfl, _, rfl, ?_⟩
    refine ite2 (fun hc => ?_) (fun hc => k 0)
    have hj : j < (ns.length : Int) := by
      have := of_decide_eq_true hc
      rw [List.length_map] at this
      exact this
    obtain ⟨i, rfl⟩ : ∃ i : Nat, j = (i : Int) := ⟨j.toNat, by omega⟩
    have hi : i < ns.length := by omega
    refine ⟨_, rfl, _, rfl, l, _, _, .int ns[i], rfl, rfl, hS, atI_nat (by rw [List.getElem?_map, List.getElem?_eq_getElem hi]; rfl), k _⟩
abbrev sGc : Stmt := top 116
theorem scGc : FnScope ["_law_a", "_law_b", "_law_rest"] ["_law_a", "_law_b"] (defScope sGc) := ⟨rfl, rfl, rfl, by decide +kernel, rfl, by decide +kernel, by decide +kernel⟩
theorem ok_gcd {f : Addr} {fd : FuncData} (F : Fun K "_law_gcd" "_law_gcd" sGc f fd) (T : Txt K mg C) : FnOk P w K mg base CX0 1 f fd ["_law_a", "_law_b"] spGcd := by
  refine F.ok scGc (fun vs H Q E h => ?_) (fun cdv A outer s H vs Q E hr h => ?_)
  · obtain ⟨a, b, rfl, _⟩ := h
    rfl
  · obtain ⟨a, b, rfl, ha, hb, k⟩ := h
    refine ⟨_, (pss_cons (ps_set (i := 0) scGc.nd rfl (Or.inl rfl) (pe_callB call_abs rfl T.abs PyProof.Rows.boot_abs (pa_cons (pv 0) pa_nil)))
 (pss_cons (ps_set (i := 1) scGc.nd rfl (Or.inl rfl) (pe_callB call_abs rfl T.abs PyProof.Rows.boot_abs (pa_cons (pv 1) pa_nil)))
 (pss_cons (ps_while PassesOwn.never (pt_cmpR op_gt (pv 1) pe_int (nomark _)) (pss_cons (ps_set (i := 2) scGc.nd rfl (Or.inl rfl) (pe_op op_sub (pv 0) (pe_op op_mulW (pe_op op_fdivNW (pv 0) (pv 1)) (pv 1))))
 (pss_cons (ps_set (i := 0) scGc.nd rfl (Or.inl rfl) (pv 1))
 (pss_one (ps_set (i := 1) scGc.nd rfl (Or.inl rfl) (pv 2))))))
 (pss_one (ps_ret (pv 0)))))), ?_⟩
    refine ⟨_, rfl, _, rfl, _, rfl, _, rfl, ?_⟩
    have ha' : Sm 8000 (if a < 0 then -a else a) := by split; exact ha.neg; exact ha
    have hb' : Sm 8000 (if b < 0 then -b else b) := by split; exact hb.neg; exact hb
    have h0 : 0 ≤ (if a < 0 then -a else a) ∧ 0 ≤ (if b < 0 then -b else b) := by constructor <;> (split <;> omega)
    have hg : Int.gcd (if a < 0 then -a else a) (if b < 0 then -b else b) = Int.gcd a b := by
      split <;> split <;> simp [Int.gcd_neg, Int.neg_gcd]
    generalize (if a < 0 then -a else a) = x at *
    generalize (if b < 0 then -b else b) = y at *
    refine ⟨fun m σ H' => ∃ (x y : Int) (r : Option V), σ = [some (.int x), some (.int y), r] ∧ H = H' ∧ 0 ≤ x ∧ 0 ≤ y ∧ Sm 8000 x ∧ Sm 8000 y ∧ Int.gcd x y = Int.gcd a b ∧ m = y.toNat, ⟨y.toNat, x, y, none, rfl, rfl, h0.1, h0.2, ha', hb', hg, rfl⟩, ?_⟩
    rintro m σ H' ⟨x, y, r, rfl, rfl, x0, y0, hx, hy, hg, rfl⟩
    refine ⟨_, rfl, _, _, rfl, rfl, _, rfl, ?_⟩
    refine ite2 (fun e1 => ?_) (fun e1 => ?_)
    · have hp : 0 < y := of_decide_eq_true e1
      have q1 : (x.fdiv y).natAbs ≤ x.natAbs := by
        rw [Int.fdiv_eq_ediv_of_nonneg x (by omega)]
        exact Int.natAbs_ediv_le_natAbs _ _
      have cm : CMulW (x.fdiv y) y := (hx.le q1).cmul hy
      have e2 : x - x.fdiv y * y = x % y := by
        rw [Int.fdiv_eq_ediv_of_nonneg x (by omega), Int.emod_def, Int.mul_comm]
      have l1 := Int.emod_nonneg x (show y ≠ 0 by omega)
      have l2 := Int.emod_lt_of_pos x hp
      refine ⟨fun σ' H' => ∃ m', m' < y.toNat ∧ ∃ (x y : Int) (r : Option V), σ' = [some (.int x), some (.int y), r] ∧ H = H' ∧ 0 ≤ x ∧ 0 ≤ y ∧ Sm 8000 x ∧ Sm 8000 y ∧ Int.gcd x y = Int.gcd a b ∧ m' = y.toNat, fun _ _ z => z, ?_⟩
      refine ⟨_, rfl, _, rfl, _, rfl, _, _, rfl, rfl, hy.cdiv (by omega), _, rfl, _, _, rfl, rfl, cm, _, _, rfl, rfl, _, rfl, _, rfl, ?_⟩
      refine ⟨(x % y).toNat, by omega, y, x % y, some (.int (x % y)), ?_, rfl, by omega, l1, hy, hy.le (by omega), ?_, rfl⟩
      · show [some (V.int y), some (V.int (x - x.fdiv y * y)), some (V.int (x - x.fdiv y * y))] = _
        rw [e2]
      · rw [← hg, Int.gcd_comm]
        show Nat.gcd (x % y).natAbs y.natAbs = Nat.gcd x.natAbs y.natAbs
        rw [Int.natAbs_emod_of_nonneg x0, ← Nat.gcd_rec, Nat.gcd_comm]
    · have hz : y = 0 := by
        have := of_decide_eq_false (Bool.eq_false_iff.mpr e1)
        omega
      subst hz
      refine ⟨_, rfl, ?_⟩
      have e3 : x = ((Int.gcd a b : Nat) : Int) := by
        rw [← hg]
        show x = ((Nat.gcd x.natAbs 0 : Nat) : Int)
        rw [Nat.gcd_zero_right]
        omega
      rw [e3]
      exact k
theorem tyM {t b : Int} {v : V} {H : Hp} (T : Txt K mg C) (h : Mo C t b v H) : TyX K H v (.ref C) := by
  obtain ⟨a, dx, rfl, e⟩ := h
  exact .base (.ins e T.cl T.cls T.clg T.clt T.obj)
abbrev sKp : Stmt := top 3
theorem scKp : FnScope ["value", "part", "key"] ["value"] (defScope sKp) := ⟨rfl, rfl, rfl, by decide +kernel, rfl, by decide +kernel, by decide +kernel⟩
theorem ok_kept {f : Addr} {fd : FuncData} (F : Fun K "_kept" "_kept" sKp f fd) (T : Txt K mg C) : FnOk P w K mg base CX0 1 f fd ["value"] (spKept K) := by
  refine F.ok scKp (fun vs H Q E h => ?_) (fun cdv A outer s H vs Q E hr h => ?_)
  · obtain ⟨x, rfl, _⟩ := h
    rfl
  · obtain ⟨x, rfl, px, k⟩ := h
    obtain ⟨t, ty, l, d⟩ := px.ty
    refine ⟨_, (pss_cons (ps_if (pt_val (pe_callB (r := rIsi K) call_isi rfl T.isi PyProof.Rows.boot_isinstance (pa_cons (pv 0) (pa_cons (pe_bltn (v := .ty "list") rfl T.lst PyProof.Rows.boot_list rfl) pa_nil)))) (pss_one ps_never) pss_nil)
 (pss_cons (ps_if (pt_val (pe_callB (r := rIsi K) call_isi rfl T.isi PyProof.Rows.boot_isinstance (pa_cons (pv 0) (pa_cons (pe_bltn (v := .ty "dict") rfl T.dct PyProof.Rows.boot_dict rfl) pa_nil)))) (pss_one ps_never) pss_nil)
 (pss_one (ps_ret (pv 0))))), ?_⟩
    exact ⟨_, rfl, _, _, _, _, false, rfl, .ty "list", ty, l, false, rfl, iteF ⟨_, rfl, _, _, _, _, false, rfl, .ty "dict", ty, d, false, rfl, iteF ⟨_, rfl, k⟩⟩⟩
/-! ### NoMoment's and Moment's __init__ -/
structure TxtN (K : PySem.W.Frag) (mg : Str → Option Value) (CN fN : Addr) : Prop where
  ox : OexC K CN
  nT : PySem.W.findIn K (.ref CN) "top" = some none
  nB : PySem.W.findIn K (.ref CN) "bottom" = some none
  iC : PySem.W.findIn K (.ref CN) "__init__" = some (some (.ref fN))
  tI : PySem.W.typeIn K (.ref fN) = some (.type "function")
  mg : mg "NoMoment" = some (.ref CN)
def spNoM (K : PySem.W.Frag) (C : Addr) : Sp := fun vs H Q _ => ∃ (a : Addr) (x y : V), vs = [.ref a, x, y] ∧ H a = some (exo a C none) ∧ Plain K H x ∧ Plain K H y ∧
  ∀ dx, H dx = none → dx ≠ a → Q .non (upd (upd (upd H dx (exd dx [(("top" : Str), x)])) a (exo a C (some dx))) dx (exd dx [(("bottom" : Str), y), (("top" : Str), x)]))
abbrev sNM : Stmt := inClass (top 5) 0
theorem scNM : FnScope ["self", "top", "bottom"] ["self", "top", "bottom"] (defScope sNM) := ⟨rfl, rfl, rfl, by decide +kernel, rfl, by decide +kernel, by decide +kernel⟩
theorem ok_nomom {f fN : Addr} {fd : FuncData} (F : Fun K "__init__" "NoMoment.__init__" sNM f fd) (T : TxtN K mg CN fN) (OK : Ok P w K mg base CX0 1 "_kept" ["value"] (spKept K)) : FnOk P w K mg base CX0 2 f fd ["self", "top", "bottom"] (spNoM K CN) := by
  obtain ⟨fKp, fdKp, GKp, mKp, kKp, bKp⟩ := OK
  refine F.ok scNM (fun vs H Q E h => ?_) (fun cdv A outer s H vs Q E hr h => ?_)
  · obtain ⟨a, x, y, rfl, _⟩ := h
    rfl
  · obtain ⟨a, x, y, rfl, ha, px, py, k⟩ := h
    refine ⟨_, (pss_cons (ps_ost (pv 0) (pe_call GKp (hr.mono (by decide)) rfl mKp kKp bKp .nil pass0 (pa_cons (pv 1) pa_nil)))
 (pss_one (ps_ost (pv 0) (pe_call GKp (hr.mono (by decide)) rfl mKp kKp bKp .nil pass0 (pa_cons (pv 2) pa_nil))))), ?_⟩
    refine ⟨_, rfl, x, rfl, px, _, rfl, a, CN, rfl, T.ox, T.nT, .inl ⟨ha, fun dx n1 n2 => ?_⟩⟩
    exact ⟨_, rfl, y, rfl, py.keep (ins_st ha n1), _, rfl, a, CN, rfl, T.ox, T.nB, .inr ⟨dx, _, upd_same, (by rw [upd_ne n2, upd_same]), (by show 1 ≤ 900; decide), k dx n1 n2⟩⟩
abbrev sIn : Stmt := inClass (top 14) 0
theorem scIn : FnScope ["self", "top", "bottom", "shared"] ["self", "top", "bottom"] (defScope sIn) := ⟨rfl, rfl, rfl, by decide +kernel, rfl, by decide +kernel, by decide +kernel⟩
theorem ok_init {f fN : Addr} {fd fdN : FuncData} {ds : List V} (F : FunD K "__init__" "Moment.__init__" (defArgs sIn) (defBody sIn) (defScope sIn) ds [] f fd) (T : Txt K mg C) (TN : TxtN K mg CN fN) (FNM : Fun K "__init__" "NoMoment.__init__" sNM fN fdN) (bNM : Binds K fdN ["self", "top", "bottom"] []) (OK : Ok P w K mg base CX0 1 "_kept" ["value"] (spKept K)) :
    FnOk P w K mg base (L2.CX P w) 4 f fd ["self", "top", "bottom"] (spInit C CN) := by
  have GNM : FnOk P w K mg base CX0 2 fN fdN ["self", "top", "bottom"] (spNoM K CN) := ok_nomom FNM TN OK
  refine F.ok (CX := L2.CX P w) scIn (fun vs H Q E h => ?_) (fun cdv A outer s H vs Q E hr h => ?_)
  · obtain ⟨p, dx, n, d, rfl, _⟩ := h
    rfl
  · obtain ⟨p, dx, n, d, rfl, hp, sn, sd, kE, kQ⟩ := h
    refine ⟨_, (pss_cons (ps_if (pt_cmpR op_eq (pv 2) pe_int (nomark _)) (pss_one (ps_raise rfl (takes_of rfl rfl rfl rfl) (pmk_oex TN.ox TN.iC TN.tI GNM (hr.mono (by decide)) bNM .nil pass0 rfl TN.mg (pa_cons (pv 1) (pa_cons (pv 2) pa_nil))))) pss_nil)
 (pss_cons (ps_set (i := 3) scIn.nd rfl (Or.inl rfl) (pe_ifExp (pt_cmpR op_gt (pv 2) pe_int (nomark _)) (pe_callBfun cr_gcd rfl T.gcd (pa_cons (pv 1) (pa_cons (pv 2) pa_nil))) (pe_un un_neg (pe_callBfun cr_gcd rfl T.gcd (pa_cons (pv 1) (pa_cons (pv 2) pa_nil))))))
 (pss_cons (ps_fld (pv 0) (pe_op op_fdivNW (pv 1) (pv 3)) rfl)
 (pss_one (ps_fld (pv 0) (pe_op op_fdivNW (pv 2) (pv 3)) rfl))))), ?_⟩
    refine ⟨_, rfl, rfl, _, rfl, ?_⟩
    refine ite2 (fun e1 => ?_) (fun e1 => ?_)
    · have hd : d = 0 := by
        have := of_decide_eq_true e1
        injection this
      subst hd
      refine ⟨_, rfl, _, rfl, (by show 2 ≤ 1000; decide), fun a ha => ⟨a, _, _, rfl, upd_same, .int _, .int _, fun d1 n1 n2 => ⟨rfl, d1, _, ?_, upd_same, ?_, ?_⟩⟩⟩
      · rw [upd_ne n2.symm, upd_same]
      · rw [upd_ne n2] at n1
        exact n1
      · rw [upd_ne n2] at n1
        refine kE rfl d1 _ _ n1 ?_ ?_ upd_same fun q o hq => ?_
        · rw [lookup_put, if_neg ntb, lookup_put, if_pos rfl]
        · rw [lookup_put, if_pos rfl]
        · have q1 : q ≠ d1 := ne_of_none hq n1
          have q2 : q ≠ a := ne_of_none hq ha
          rw [upd_ne q1, del_ne q2, upd_ne q1, upd_ne q2, upd_ne q1, upd_ne q2]
          exact hq
    · have hd : d ≠ 0 := fun z => e1 (decide_eq_true (by rw [z]))
      have N := norm_mk (n := n) hd
      have sN := sg_ne (n := n) hd
      have ss : Sm 8000 (sg n d) := sd.le (sg_le hd)
      have fin : ∀ D : Ends, (D.nx = fun _ H' => Q .non H') → tSeq (sFld K (tVar 0) (tOp (rI CDivNW fun i j => .int (i.fdiv j)) (tVar 1) (tVar 3)) "top") (sFld K (tVar 0) (tOp (rI CDivNW fun i j => .int (i.fdiv j)) (tVar 2) (tVar 3)) "bottom") D
          [some (.ref p), some (.int n), some (.int d), some (.int (sg n d))] H := by
        intro D hD
        refine ⟨_, rfl, _, rfl, _, _, rfl, rfl, ss.cdiv sN, _, rfl, p, C, dx, [], rfl, hp, T.cl, T.nT, (by show 0 < 1000; decide), ?_⟩
        refine ⟨_, rfl, _, rfl, _, _, rfl, rfl, ss.cdiv sN, _, rfl, p, C, dx, _, rfl, upd_same, T.cl, T.nB, (by show 1 < 1000; decide), ?_⟩
        rw [hD]
        have z := kQ hd _ _ N
        have e : upd (upd H p (.ins C dx (putF "top" (.int (n.fdiv (sg n d))) []))) p (.ins C dx (putF "bottom" (.int (d.fdiv (sg n d))) (putF "top" (.int (n.fdiv (sg n d))) []))) = upd H p (.ins C dx (mf (n.fdiv (sg n d)) (d.fdiv (sg n d)))) := by
          funext q
          by_cases hq : q = p
          · subst hq
            rw [upd_same, upd_same]
            rfl
          · rw [upd_ne hq, upd_ne hq, upd_ne hq]
        show Q .non (upd (upd H p _) p _)
        exact e ▸ z
      refine ⟨_, rfl, _, _, rfl, rfl, _, rfl, ?_⟩
      refine ite2 (fun e2 => ?_) (fun e2 => ?_)
      · have h0 := of_decide_eq_true e2
        refine ⟨_, rfl, _, rfl, n, d, rfl, ?_⟩
        have e3 : sg n d = ((Nat.gcd n.natAbs d.natAbs : Nat) : Int) := if_pos h0
        have z := fin { nx := fun _ H' => Q .non H', rt := Q } rfl
        rw [e3] at z
        exact z
      · have h0 := of_decide_eq_false (Bool.eq_false_iff.mpr e2)
        refine ⟨_, rfl, _, rfl, n, d, rfl, _, rfl, ?_⟩
        have e3 : sg n d = -((Nat.gcd n.natAbs d.natAbs : Nat) : Int) := if_neg h0
        have z := fin { nx := fun _ H' => Q .non H', rt := Q } rfl
        rw [e3] at z
        exact z
abbrev sIt : Stmt := top 15
theorem scIt : FnScope ["value"] ["value"] (defScope sIt) := ⟨rfl, rfl, rfl, by decide +kernel, rfl, by decide +kernel, by decide +kernel⟩
theorem ok_istime {f : Addr} {fd : FuncData} (F : Fun K "is_time" "is_time" sIt f fd) (T : Txt K mg C) : FnOk P w K mg base CX0 1 f fd ["value"] (spIsTime C) := by
  refine F.ok scIt (fun vs H Q E h => ?_) (fun cdv A outer s H vs Q E hr h => ?_)
  · obtain ⟨x, t, b, rfl, _⟩ := h
    rfl
  · obtain ⟨x, t, b, rfl, hx, k⟩ := h
    refine ⟨_, (pss_one (ps_ret (pe_callB call_isiT rfl T.isi PyProof.Rows.boot_isinstance (pa_cons (pv 0) (pa_cons (pe_tup (pa_cons (pe_bltn (v := .ty "int") rfl T.int PyProof.Rows.boot_int rfl) (pa_cons (pe_glob (v := .ref C) rfl T.mgC rfl) pa_nil))) pa_nil))))), ?_⟩
    refine ⟨_, rfl, (by show 2 ≤ sizeLine; decide), fun tp htp => ?_⟩
    have e1 : Ex H (upd H tp (.tup [.ty "int", .ref C])) := Ex.new htp
    have pr : Paired ClsV [V.ty "int", V.ref C] [Value.type "int", Value.ref C] := .cons (.ty _) (.cons (.own _) .nil)
    rcases hx with hx | ⟨rfl, _⟩
    · exact ⟨x, tp, _, _, _, true, rfl, upd_same, pr, tyM T (hx.ex e1), kitAny_cons T.isI (fun _ => kitAny_cons T.isC (fun z => by cases z) fun _ => rfl) (fun z => by cases z), k _ e1⟩
    · exact ⟨_, tp, _, _, _, true, rfl, upd_same, pr, .base (.int _), kitAny_cons (kit_ty (r := true) (by decide +kernel)) (fun z => by cases z) (fun _ => rfl), k _ e1⟩
abbrev sAm : Stmt := top 16
theorem scAm : FnScope ["time"] ["time"] (defScope sAm) := ⟨rfl, rfl, rfl, by decide +kernel, rfl, by decide +kernel, by decide +kernel⟩
theorem ok_asm {f : Addr} {fd : FuncData} (F : Fun K "as_moment" "as_moment" sAm f fd) (T : Txt K mg C) (OI : OkI P w K mg base C CN) : FnOk P w K mg base CX0 6 f fd ["time"] (spAsM C) := by
  obtain ⟨fI, fdI, dsI, GI, MkC, bI, vI1, bI1⟩ := OI
  refine F.ok scAm (fun vs H Q E h => ?_) (fun cdv A outer s H vs Q E hr h => ?_)
  · obtain ⟨x, t, b, rfl, _⟩ := h
    rfl
  · obtain ⟨x, t, b, rfl, hx, st, k⟩ := h
    refine ⟨_, (pss_cons (ps_if (pt_val (pe_callB (r := rIsi K) call_isi rfl T.isi PyProof.Rows.boot_isinstance (pa_cons (pv 0) (pa_cons (pe_glob (v := .ref C) rfl T.mgC rfl) pa_nil)))) (pss_one (ps_ret (pv 0))) pss_nil)
 (pss_one (ps_ret (pe_make MkC GI (hr.mono (by decide)) rfl T.mgC bI1 vI1 passL (pa_cons (pv 0) pa_nil))))), ?_⟩
    rcases hx with hx | ⟨rfl, rfl⟩
    · exact ⟨_, rfl, _, _, _, _, true, rfl, .own C, tyM T hx, T.isC, true, rfl, iteT ⟨_, rfl, k _ _ (Ex.refl _) hx⟩⟩
    · exact ⟨_, rfl, _, _, _, _, false, rfl, .own C, .base (.int _), T.iI, false, rfl, iteF ⟨_, rfl, mk_rd1 st k⟩⟩
abbrev sEq : Stmt := inClass (top 14) 7
theorem scEq : FnScope ["self", "other"] ["self", "other"] (defScope sEq) := ⟨rfl, rfl, rfl, by decide +kernel, rfl, by decide +kernel, by decide +kernel⟩
theorem ok_eq {f : Addr} {fd : FuncData} (F : Fun K "__eq__" "Moment.__eq__" sEq f fd) (T : Txt K mg C) (hic : PySem.W.isClsIn K C = true) (hty : PySem.W.typeIn K (.ref C) = some (.type "type")) : FnOk P w K mg base CX0 1 f fd ["self", "other"] (spEq2 C) := by
  refine F.ok scEq (fun vs H Q E h => ?_) (fun cdv A outer s H vs Q E hr h => ?_)
  · obtain ⟨x, y, t, b, rfl, _⟩ := h
    rfl
  · obtain ⟨x, y, t, b, rfl, hx, hy⟩ := h
    obtain ⟨a, dx, rfl, hx⟩ := hx
    refine ⟨_, (pss_cons (ps_if (pt_val (pe_callB (r := rIsi K) call_isi rfl T.isi PyProof.Rows.boot_isinstance (pa_cons (pv 1) (pa_cons (pe_glob (v := .ref C) rfl T.mgC rfl) pa_nil)))) (pss_one (ps_ret (pe_and (pe_cmpR op_eq (pe_fld (pv 0) rfl) (pe_fld (pv 1) rfl) (nomark _)) (pe_one (pe_cmpR op_eq (pe_fld (pv 0) rfl) (pe_fld (pv 1) rfl) (nomark _)))))) pss_nil)
 (pss_one (ps_ret (pe_and (pe_callB (r := rIsi K) call_isi rfl T.isi PyProof.Rows.boot_isinstance (pa_cons (pv 1) (pa_cons (pe_bltn (v := .ty "int") rfl T.int PyProof.Rows.boot_int rfl) pa_nil))) (pe_and (pe_cmpR op_eq (pe_fld (pv 0) rfl) pe_int (nomark _)) (pe_one (pe_cmpR op_eq (pe_fld (pv 0) rfl) (pv 1) (nomark _)))))))), ?_⟩
    rcases hy with ⟨t', b', hy, k⟩ | ⟨i, rfl, k⟩ | ⟨ho, k⟩
    · have ty := tyM T hy
      obtain ⟨a2, dx2, rfl, hy⟩ := hy
      refine ⟨_, rfl, _, _, _, _, true, rfl, .own C, ty, T.isC, true, rfl, iteT ?_⟩
      refine ⟨_, rfl, a, C, dx, _, _, rfl, hx, T.cl, T.nT, mf_top _ _, _, rfl, a2, C, dx2, _, _, rfl, hy, T.cl, T.nT, mf_top _ _, rfl, _, rfl, ?_⟩
      refine ite2 (fun e1 => ?_) (fun e1 => ?_)
      · have h1 : t = t' := by
          have z := of_decide_eq_true e1
          injection z
        refine ⟨_, rfl, a, C, dx, _, _, rfl, hx, T.cl, T.nB, mf_bottom _ _, _, rfl, a2, C, dx2, _, _, rfl, hy, T.cl, T.nB, mf_bottom _ _, rfl, ?_⟩
        refine k _ _ (Ex.refl _) ⟨fun z => ⟨h1, by have z := of_decide_eq_true z; injection z⟩, fun z => decide_eq_true (by rw [z.2])⟩
      · exact k _ _ (Ex.refl _) ⟨fun z => Bool.noConfusion z, fun z => absurd (decide_eq_true (by rw [z.1])) e1⟩
    · refine ⟨_, rfl, _, _, _, _, false, rfl, .own C, .base (.int _), T.iI, false, rfl, iteF ?_⟩
      refine ⟨_, rfl, _, _, _, _, true, rfl, .ty "int", .base (.int _), kit_ty (by decide +kernel), true, rfl, iteT ?_⟩
      refine ⟨_, rfl, a, C, dx, _, _, rfl, hx, T.cl, T.nB, mf_bottom _ _, rfl, _, rfl, ?_⟩
      refine ite2 (fun e1 => ?_) (fun e1 => ?_)
      · have h1 : b = 1 := by
          have z := of_decide_eq_true e1
          injection z
        refine ⟨_, rfl, a, C, dx, _, _, rfl, hx, T.cl, T.nT, mf_top _ _, _, rfl, rfl, ?_⟩
        refine k _ _ (Ex.refl _) ⟨fun z => ⟨h1, by have z := of_decide_eq_true z; injection z⟩, fun z => decide_eq_true (by rw [z.2])⟩
      · exact k _ _ (Ex.refl _) ⟨fun z => Bool.noConfusion z, fun z => absurd (decide_eq_true (by rw [z.1])) e1⟩
    · obtain ⟨ty, h1, h2, h3⟩ : ∃ ty, TyX K H y ty ∧ PySem.W.kitOne K ty (.ref C) = some false ∧ PySem.W.kitOne K ty (.type "int") = some false := by
        cases ho with
        | str z => exact ⟨_, .base (.str _), kit_tc hic hty nf_str, kit_ty (by decide +kernel)⟩
        | non => exact ⟨_, .base .non, kit_tc hic hty nf_none, kit_ty (by decide +kernel)⟩
        | lst e => exact ⟨_, .base (.lst e), kit_tc hic hty nf_list, kit_ty (by decide +kernel)⟩
        | tup e => exact ⟨_, .base (.tup e), kit_tc hic hty nf_tuple, kit_ty (by decide +kernel)⟩
      exact ⟨_, rfl, _, _, _, _, false, rfl, .own C, h1, h2, false, rfl, iteF ⟨_, rfl, _, _, _, _, false, rfl, .ty "int", h1, h3, false, rfl, k _ (Ex.refl _)⟩⟩
abbrev sLt : Stmt := inClass (top 14) 8
theorem scLt : FnScope ["self", "other"] ["self", "other"] (defScope sLt) := ⟨rfl, rfl, rfl, by decide +kernel, rfl, by decide +kernel, by decide +kernel⟩
theorem ok_lt {f : Addr} {fd : FuncData} (F : Fun K "__lt__" "Moment.__lt__" sLt f fd) (T : Txt K mg C) (OT : Ok P w K mg base CX0 1 "is_time" ["value"] (spIsTime C)) (OA : Ok P w K mg base CX0 6 "as_moment" ["time"] (spAsM C)) : FnOk P w K mg base CX0 7 f fd ["self", "other"] (spCmp C gLt) := by
  refine F.ok scLt (fun vs H Q E h => ?_) (fun cdv A outer s H vs Q E hr h => ?_)
  · obtain ⟨x, y, t, b, t', b', rfl, _⟩ := h
    rfl
  · obtain ⟨x, y, t, b, t', b', rfl, hx, hy, st, sb, st', sb', k⟩ := h
    obtain ⟨a, dx, rfl, hx⟩ := hx
    refine ⟨_, (pss_cons (ps_if (pt_val (pe_callB (r := rIsi K) call_isi rfl T.isi PyProof.Rows.boot_isinstance (pa_cons (pv 1) (pa_cons (pe_glob (v := .ref C) rfl T.mgC rfl) pa_nil)))) (pss_one (ps_ret (pe_cmpR op_lt (pe_op op_mulW (pe_fld (pv 0) rfl) (pe_fld (pv 1) rfl)) (pe_op op_mulW (pe_fld (pv 1) rfl) (pe_fld (pv 0) rfl)) (nomark _)))) pss_nil)
 (pss_cons (ps_if (pt_val (pe_callB (r := rIsi K) call_isi rfl T.isi PyProof.Rows.boot_isinstance (pa_cons (pv 1) (pa_cons (pe_bltn (v := .ty "int") rfl T.int PyProof.Rows.boot_int rfl) pa_nil)))) (pss_one (ps_ret (pe_cmpR op_lt (pe_fld (pv 0) rfl) (pe_op op_mulW (pv 1) (pe_fld (pv 0) rfl)) (nomark _)))) pss_nil)
 (pss_one ps_never))), ?_⟩
    rcases hy with hy | ⟨rfl, rfl⟩
    · have ty := tyM T hy
      obtain ⟨a2, dx2, rfl, m1⟩ := hy
      refine ⟨_, rfl, _, _, _, _, true, rfl, .own C, ty, T.isC, true, rfl, iteT ?_⟩
      exact ⟨_, rfl, a, C, dx, _, _, rfl, hx, T.cl, T.nT, mf_top _ _, _, rfl, a2, C, dx2, _, _, rfl, m1, T.cl, T.nB, mf_bottom _ _, _, _, rfl, rfl, st.cmul sb', _, rfl, a2, C, dx2, _, _, rfl, m1, T.cl, T.nT, mf_top _ _, _, rfl, a, C, dx, _, _, rfl, hx, T.cl, T.nB, mf_bottom _ _, _, _, rfl, rfl, st'.cmul sb, _, _, rfl, rfl, k _ (Ex.refl _)⟩
    · refine ⟨_, rfl, _, _, _, _, false, rfl, .own C, .base (.int _), T.iI, false, rfl, iteF ?_⟩
      refine ⟨_, rfl, _, _, _, _, true, rfl, .ty "int", .base (.int _), kit_ty (by decide +kernel), true, rfl, iteT ?_⟩
      have k' := k _ (Ex.refl _)
      rw [Int.mul_one] at k'
      exact ⟨_, rfl, a, C, dx, _, _, rfl, hx, T.cl, T.nT, mf_top _ _, _, rfl, _, rfl, a, C, dx, _, _, rfl, hx, T.cl, T.nB, mf_bottom _ _, _, _, rfl, rfl, st'.cmul sb, _, _, rfl, rfl, k'⟩
abbrev sLe : Stmt := inClass (top 14) 9
theorem scLe : FnScope ["self", "other"] ["self", "other"] (defScope sLe) := ⟨rfl, rfl, rfl, by decide +kernel, rfl, by decide +kernel, by decide +kernel⟩
theorem ok_le {f : Addr} {fd : FuncData} (F : Fun K "__le__" "Moment.__le__" sLe f fd) (T : Txt K mg C) (OT : Ok P w K mg base CX0 1 "is_time" ["value"] (spIsTime C)) (OA : Ok P w K mg base CX0 6 "as_moment" ["time"] (spAsM C)) : FnOk P w K mg base CX0 7 f fd ["self", "other"] (spCmp C gLe) := by
  refine F.ok scLe (fun vs H Q E h => ?_) (fun cdv A outer s H vs Q E hr h => ?_)
  · obtain ⟨x, y, t, b, t', b', rfl, _⟩ := h
    rfl
  · obtain ⟨x, y, t, b, t', b', rfl, hx, hy, st, sb, st', sb', k⟩ := h
    obtain ⟨a, dx, rfl, hx⟩ := hx
    refine ⟨_, (pss_cons (ps_if (pt_val (pe_callB (r := rIsi K) call_isi rfl T.isi PyProof.Rows.boot_isinstance (pa_cons (pv 1) (pa_cons (pe_glob (v := .ref C) rfl T.mgC rfl) pa_nil)))) (pss_one (ps_ret (pe_cmpR op_le (pe_op op_mulW (pe_fld (pv 0) rfl) (pe_fld (pv 1) rfl)) (pe_op op_mulW (pe_fld (pv 1) rfl) (pe_fld (pv 0) rfl)) (nomark _)))) pss_nil)
 (pss_cons (ps_if (pt_val (pe_callB (r := rIsi K) call_isi rfl T.isi PyProof.Rows.boot_isinstance (pa_cons (pv 1) (pa_cons (pe_bltn (v := .ty "int") rfl T.int PyProof.Rows.boot_int rfl) pa_nil)))) (pss_one (ps_ret (pe_cmpR op_le (pe_fld (pv 0) rfl) (pe_op op_mulW (pv 1) (pe_fld (pv 0) rfl)) (nomark _)))) pss_nil)
 (pss_one ps_never))), ?_⟩
    rcases hy with hy | ⟨rfl, rfl⟩
    · have ty := tyM T hy
      obtain ⟨a2, dx2, rfl, m1⟩ := hy
      refine ⟨_, rfl, _, _, _, _, true, rfl, .own C, ty, T.isC, true, rfl, iteT ?_⟩
      exact ⟨_, rfl, a, C, dx, _, _, rfl, hx, T.cl, T.nT, mf_top _ _, _, rfl, a2, C, dx2, _, _, rfl, m1, T.cl, T.nB, mf_bottom _ _, _, _, rfl, rfl, st.cmul sb', _, rfl, a2, C, dx2, _, _, rfl, m1, T.cl, T.nT, mf_top _ _, _, rfl, a, C, dx, _, _, rfl, hx, T.cl, T.nB, mf_bottom _ _, _, _, rfl, rfl, st'.cmul sb, _, _, rfl, rfl, k _ (Ex.refl _)⟩
    · refine ⟨_, rfl, _, _, _, _, false, rfl, .own C, .base (.int _), T.iI, false, rfl, iteF ?_⟩
      refine ⟨_, rfl, _, _, _, _, true, rfl, .ty "int", .base (.int _), kit_ty (by decide +kernel), true, rfl, iteT ?_⟩
      have k' := k _ (Ex.refl _)
      rw [Int.mul_one] at k'
      exact ⟨_, rfl, a, C, dx, _, _, rfl, hx, T.cl, T.nT, mf_top _ _, _, rfl, _, rfl, a, C, dx, _, _, rfl, hx, T.cl, T.nB, mf_bottom _ _, _, _, rfl, rfl, st'.cmul sb, _, _, rfl, rfl, k'⟩
abbrev sGt : Stmt := inClass (top 14) 10
theorem scGt : FnScope ["self", "other"] ["self", "other"] (defScope sGt) := ⟨rfl, rfl, rfl, by decide +kernel, rfl, by decide +kernel, by decide +kernel⟩
theorem ok_gt {f : Addr} {fd : FuncData} (F : Fun K "__gt__" "Moment.__gt__" sGt f fd) (T : Txt K mg C) (OT : Ok P w K mg base CX0 1 "is_time" ["value"] (spIsTime C)) (OA : Ok P w K mg base CX0 6 "as_moment" ["time"] (spAsM C)) : FnOk P w K mg base CX0 7 f fd ["self", "other"] (spCmp C gGt) := by
  refine F.ok scGt (fun vs H Q E h => ?_) (fun cdv A outer s H vs Q E hr h => ?_)
  · obtain ⟨x, y, t, b, t', b', rfl, _⟩ := h
    rfl
  · obtain ⟨x, y, t, b, t', b', rfl, hx, hy, st, sb, st', sb', k⟩ := h
    obtain ⟨a, dx, rfl, hx⟩ := hx
    refine ⟨_, (pss_cons (ps_if (pt_val (pe_callB (r := rIsi K) call_isi rfl T.isi PyProof.Rows.boot_isinstance (pa_cons (pv 1) (pa_cons (pe_glob (v := .ref C) rfl T.mgC rfl) pa_nil)))) (pss_one (ps_ret (pe_cmpR op_gt (pe_op op_mulW (pe_fld (pv 0) rfl) (pe_fld (pv 1) rfl)) (pe_op op_mulW (pe_fld (pv 1) rfl) (pe_fld (pv 0) rfl)) (nomark _)))) pss_nil)
 (pss_cons (ps_if (pt_val (pe_callB (r := rIsi K) call_isi rfl T.isi PyProof.Rows.boot_isinstance (pa_cons (pv 1) (pa_cons (pe_bltn (v := .ty "int") rfl T.int PyProof.Rows.boot_int rfl) pa_nil)))) (pss_one (ps_ret (pe_cmpR op_gt (pe_fld (pv 0) rfl) (pe_op op_mulW (pv 1) (pe_fld (pv 0) rfl)) (nomark _)))) pss_nil)
 (pss_one ps_never))), ?_⟩
    rcases hy with hy | ⟨rfl, rfl⟩
    · have ty := tyM T hy
      obtain ⟨a2, dx2, rfl, m1⟩ := hy
      refine ⟨_, rfl, _, _, _, _, true, rfl, .own C, ty, T.isC, true, rfl, iteT ?_⟩
      exact ⟨_, rfl, a, C, dx, _, _, rfl, hx, T.cl, T.nT, mf_top _ _, _, rfl, a2, C, dx2, _, _, rfl, m1, T.cl, T.nB, mf_bottom _ _, _, _, rfl, rfl, st.cmul sb', _, rfl, a2, C, dx2, _, _, rfl, m1, T.cl, T.nT, mf_top _ _, _, rfl, a, C, dx, _, _, rfl, hx, T.cl, T.nB, mf_bottom _ _, _, _, rfl, rfl, st'.cmul sb, _, _, rfl, rfl, k _ (Ex.refl _)⟩
    · refine ⟨_, rfl, _, _, _, _, false, rfl, .own C, .base (.int _), T.iI, false, rfl, iteF ?_⟩
      refine ⟨_, rfl, _, _, _, _, true, rfl, .ty "int", .base (.int _), kit_ty (by decide +kernel), true, rfl, iteT ?_⟩
      have k' := k _ (Ex.refl _)
      rw [Int.mul_one] at k'
      exact ⟨_, rfl, a, C, dx, _, _, rfl, hx, T.cl, T.nT, mf_top _ _, _, rfl, _, rfl, a, C, dx, _, _, rfl, hx, T.cl, T.nB, mf_bottom _ _, _, _, rfl, rfl, st'.cmul sb, _, _, rfl, rfl, k'⟩
abbrev sGe : Stmt := inClass (top 14) 11
theorem scGe : FnScope ["self", "other"] ["self", "other"] (defScope sGe) := ⟨rfl, rfl, rfl, by decide +kernel, rfl, by decide +kernel, by decide +kernel⟩
theorem ok_ge {f : Addr} {fd : FuncData} (F : Fun K "__ge__" "Moment.__ge__" sGe f fd) (T : Txt K mg C) (OT : Ok P w K mg base CX0 1 "is_time" ["value"] (spIsTime C)) (OA : Ok P w K mg base CX0 6 "as_moment" ["time"] (spAsM C)) : FnOk P w K mg base CX0 7 f fd ["self", "other"] (spCmp C gGe) := by
  refine F.ok scGe (fun vs H Q E h => ?_) (fun cdv A outer s H vs Q E hr h => ?_)
  · obtain ⟨x, y, t, b, t', b', rfl, _⟩ := h
    rfl
  · obtain ⟨x, y, t, b, t', b', rfl, hx, hy, st, sb, st', sb', k⟩ := h
    obtain ⟨a, dx, rfl, hx⟩ := hx
    refine ⟨_, (pss_cons (ps_if (pt_val (pe_callB (r := rIsi K) call_isi rfl T.isi PyProof.Rows.boot_isinstance (pa_cons (pv 1) (pa_cons (pe_glob (v := .ref C) rfl T.mgC rfl) pa_nil)))) (pss_one (ps_ret (pe_cmpR op_ge (pe_op op_mulW (pe_fld (pv 0) rfl) (pe_fld (pv 1) rfl)) (pe_op op_mulW (pe_fld (pv 1) rfl) (pe_fld (pv 0) rfl)) (nomark _)))) pss_nil)
 (pss_cons (ps_if (pt_val (pe_callB (r := rIsi K) call_isi rfl T.isi PyProof.Rows.boot_isinstance (pa_cons (pv 1) (pa_cons (pe_bltn (v := .ty "int") rfl T.int PyProof.Rows.boot_int rfl) pa_nil)))) (pss_one (ps_ret (pe_cmpR op_ge (pe_fld (pv 0) rfl) (pe_op op_mulW (pv 1) (pe_fld (pv 0) rfl)) (nomark _)))) pss_nil)
 (pss_one ps_never))), ?_⟩
    rcases hy with hy | ⟨rfl, rfl⟩
    · have ty := tyM T hy
      obtain ⟨a2, dx2, rfl, m1⟩ := hy
      refine ⟨_, rfl, _, _, _, _, true, rfl, .own C, ty, T.isC, true, rfl, iteT ?_⟩
      exact ⟨_, rfl, a, C, dx, _, _, rfl, hx, T.cl, T.nT, mf_top _ _, _, rfl, a2, C, dx2, _, _, rfl, m1, T.cl, T.nB, mf_bottom _ _, _, _, rfl, rfl, st.cmul sb', _, rfl, a2, C, dx2, _, _, rfl, m1, T.cl, T.nT, mf_top _ _, _, rfl, a, C, dx, _, _, rfl, hx, T.cl, T.nB, mf_bottom _ _, _, _, rfl, rfl, st'.cmul sb, _, _, rfl, rfl, k _ (Ex.refl _)⟩
    · refine ⟨_, rfl, _, _, _, _, false, rfl, .own C, .base (.int _), T.iI, false, rfl, iteF ?_⟩
      refine ⟨_, rfl, _, _, _, _, true, rfl, .ty "int", .base (.int _), kit_ty (by decide +kernel), true, rfl, iteT ?_⟩
      have k' := k _ (Ex.refl _)
      rw [Int.mul_one] at k'
      exact ⟨_, rfl, a, C, dx, _, _, rfl, hx, T.cl, T.nT, mf_top _ _, _, rfl, _, rfl, a, C, dx, _, _, rfl, hx, T.cl, T.nB, mf_bottom _ _, _, _, rfl, rfl, st'.cmul sb, _, _, rfl, rfl, k'⟩
abbrev sAdd : Stmt := inClass (top 14) 12
theorem scAdd : FnScope ["self", "other"] ["self", "other"] (defScope sAdd) := ⟨rfl, rfl, rfl, by decide +kernel, rfl, by decide +kernel, by decide +kernel⟩
theorem ok_add {f : Addr} {fd : FuncData} (F : Fun K "__add__" "Moment.__add__" sAdd f fd) (T : Txt K mg C) (OI : OkI P w K mg base C CN) (OT : Ok P w K mg base CX0 1 "is_time" ["value"] (spIsTime C)) (OA : Ok P w K mg base CX0 6 "as_moment" ["time"] (spAsM C)) :
    FnOk P w K mg base CX0 7 f fd ["self", "other"] (spBin C nAdd dAll) := by
  obtain ⟨fI, fdI, dsI, GI, MkC, bI, vI1, bI1⟩ := OI
  refine F.ok scAdd (fun vs H Q E h => ?_) (fun cdv A outer s H vs Q E hr h => ?_)
  · obtain ⟨x, y, t, b, t', b', rfl, _⟩ := h
    rfl
  · obtain ⟨x, y, t, b, t', b', rfl, hx, hy, p1, p2, st, sb, st', sb', k⟩ := h
    obtain ⟨a, dx, rfl, hx⟩ := hx
    refine ⟨_, (pss_cons (ps_if (pt_val (pe_callB (r := rIsi K) call_isi rfl T.isi PyProof.Rows.boot_isinstance (pa_cons (pv 1) (pa_cons (pe_glob (v := .ref C) rfl T.mgC rfl) pa_nil)))) (pss_one (ps_ret (pe_make MkC GI (hr.mono (by decide)) rfl T.mgC bI .nil passL (pa_cons (pe_op op_add (pe_op op_mulW (pe_fld (pv 0) rfl) (pe_fld (pv 1) rfl)) (pe_op op_mulW (pe_fld (pv 1) rfl) (pe_fld (pv 0) rfl))) (pa_cons (pe_op op_mulW (pe_fld (pv 0) rfl) (pe_fld (pv 1) rfl)) pa_nil))))) pss_nil)
 (pss_cons (ps_if (pt_val (pe_callB (r := rIsi K) call_isi rfl T.isi PyProof.Rows.boot_isinstance (pa_cons (pv 1) (pa_cons (pe_bltn (v := .ty "int") rfl T.int PyProof.Rows.boot_int rfl) pa_nil)))) (pss_one (ps_ret (pe_make MkC GI (hr.mono (by decide)) rfl T.mgC bI .nil passL (pa_cons (pe_op op_add (pe_fld (pv 0) rfl) (pe_op op_mulW (pv 1) (pe_fld (pv 0) rfl))) (pa_cons (pe_fld (pv 0) rfl) pa_nil))))) pss_nil)
 (pss_one ps_never))), ?_⟩
    rcases hy with hy | ⟨rfl, rfl⟩
    · have ty := tyM T hy
      obtain ⟨a2, dx2, rfl, m1⟩ := hy
      refine ⟨_, rfl, _, _, _, _, true, rfl, .own C, ty, T.isC, true, rfl, iteT ?_⟩
      refine ⟨_, rfl, a, C, dx, _, _, rfl, hx, T.cl, T.nT, mf_top _ _, _, rfl, a2, C, dx2, _, _, rfl, m1, T.cl, T.nB, mf_bottom _ _, _, _, rfl, rfl, st.cmul sb', _, rfl, a2, C, dx2, _, _, rfl, m1, T.cl, T.nT, mf_top _ _, _, rfl, a, C, dx, _, _, rfl, hx, T.cl, T.nB, mf_bottom _ _, _, _, rfl, rfl, st'.cmul sb, _, _, rfl, rfl, _, rfl, a, C, dx, _, _, rfl, hx, T.cl, T.nB, mf_bottom _ _, _, rfl, a2, C, dx2, _, _, rfl, m1, T.cl, T.nB, mf_bottom _ _, _, _, rfl, rfl, sb.cmul sb', ?_⟩
      exact mk_rd (((st.mul sb').add (st'.mul sb)).mono (by decide)) ((sb.mul sb').mono (by decide)) (Int.ne_of_gt (Int.mul_pos p1 p2)) fun t2 b2 v H' N e m => k t2 b2 v H' N e m
    · refine ⟨_, rfl, _, _, _, _, false, rfl, .own C, .base (.int _), T.iI, false, rfl, iteF ?_⟩
      refine ⟨_, rfl, _, _, _, _, true, rfl, .ty "int", .base (.int _), kit_ty (by decide +kernel), true, rfl, iteT ?_⟩
      refine ⟨_, rfl, a, C, dx, _, _, rfl, hx, T.cl, T.nT, mf_top _ _, _, rfl, _, rfl, a, C, dx, _, _, rfl, hx, T.cl, T.nB, mf_bottom _ _, _, _, rfl, rfl, st'.cmul sb, _, _, rfl, rfl, _, rfl, a, C, dx, _, _, rfl, hx, T.cl, T.nB, mf_bottom _ _, ?_⟩
      exact mk_rd (((st.mono (show 1900 ≤ 3800 by decide)).add (st'.mul sb)).mono (by decide)) (sb.mono (by decide)) (Int.ne_of_gt p1) fun t2 b2 v H' N e m => k t2 b2 v H' (by unfold nAdd dAll; rw [Int.mul_one, Int.mul_one]; exact N) e m
abbrev sRAdd : Stmt := inClass (top 14) 13
theorem scRAdd : FnScope ["self", "other"] ["self", "other"] (defScope sRAdd) := ⟨rfl, rfl, rfl, by decide +kernel, rfl, by decide +kernel, by decide +kernel⟩
theorem ok_radd {f fB : Addr} {fd fdB : FuncData} (F : Fun K "__radd__" "Moment.__radd__" sRAdd f fd) (T : Txt K mg C) (TO : Opc K C) (O2 : Op2 K C "add" fB) (GB : FnOk P w K mg base CX0 7 fB fdB ["self", "other"] (spBin C nAdd dAll)) (bB : Binds K fdB ["self", "other"] [])
    (OA : Ok P w K mg base CX0 6 "as_moment" ["time"] (spAsM C)) : FnOk P w K mg base CX0 8 f fd ["self", "other"] (spBinR C nAdd dAll) := by
  obtain ⟨fAm, fdAm, GAm, mAm, kAm, bAm⟩ := OA
  refine F.ok scRAdd (fun vs H Q E h => ?_) (fun cdv A outer s H vs Q E hr h => ?_)
  · obtain ⟨x, y, t, b, t', b', rfl, _⟩ := h
    rfl
  · obtain ⟨x, y, t, b, t', b', rfl, hx, hy, p1, p2, st, sb, st', sb', k⟩ := h
    have oB := op_own (X := (cxOf CX0 P w K mg base ["self", "other"] "Moment.__radd__" (defScope sRAdd) f cdv A outer s H E).nox) (op := .Add) (E := E0) TO io_add O2 GB hr bB pass0
    refine ⟨_, (pss_one (ps_ret (pe_op oB (pe_call GAm (hr.mono (by decide)) rfl mAm kAm bAm .nil pass0 (pa_cons (pv 1) pa_nil)) (pv 0)))), ?_⟩
    refine ⟨_, rfl, y, t', b', rfl, hy, st'.mono (by decide), fun v2 H2 e2 m1 => ?_⟩
    refine ⟨_, rfl, m1.isC, .inl (hx.ex e2).isC, _, _, _, _, _, _, rfl, m1, .inl (hx.ex e2), p2, p1, st', sb', st, sb, fun t2 b2 v H' N e m => k t2 b2 v H' N (e2.trans e) m⟩
abbrev sSub : Stmt := inClass (top 14) 14
theorem scSub : FnScope ["self", "other"] ["self", "other"] (defScope sSub) := ⟨rfl, rfl, rfl, by decide +kernel, rfl, by decide +kernel, by decide +kernel⟩
theorem ok_sub {f : Addr} {fd : FuncData} (F : Fun K "__sub__" "Moment.__sub__" sSub f fd) (T : Txt K mg C) (OI : OkI P w K mg base C CN) (OT : Ok P w K mg base CX0 1 "is_time" ["value"] (spIsTime C)) (OA : Ok P w K mg base CX0 6 "as_moment" ["time"] (spAsM C)) :
    FnOk P w K mg base CX0 7 f fd ["self", "other"] (spBin C nSub dAll) := by
  obtain ⟨fI, fdI, dsI, GI, MkC, bI, vI1, bI1⟩ := OI
  refine F.ok scSub (fun vs H Q E h => ?_) (fun cdv A outer s H vs Q E hr h => ?_)
  · obtain ⟨x, y, t, b, t', b', rfl, _⟩ := h
    rfl
  · obtain ⟨x, y, t, b, t', b', rfl, hx, hy, p1, p2, st, sb, st', sb', k⟩ := h
    obtain ⟨a, dx, rfl, hx⟩ := hx
    refine ⟨_, (pss_cons (ps_if (pt_val (pe_callB (r := rIsi K) call_isi rfl T.isi PyProof.Rows.boot_isinstance (pa_cons (pv 1) (pa_cons (pe_glob (v := .ref C) rfl T.mgC rfl) pa_nil)))) (pss_one (ps_ret (pe_make MkC GI (hr.mono (by decide)) rfl T.mgC bI .nil passL (pa_cons (pe_op op_sub (pe_op op_mulW (pe_fld (pv 0) rfl) (pe_fld (pv 1) rfl)) (pe_op op_mulW (pe_fld (pv 1) rfl) (pe_fld (pv 0) rfl))) (pa_cons (pe_op op_mulW (pe_fld (pv 0) rfl) (pe_fld (pv 1) rfl)) pa_nil))))) pss_nil)
 (pss_cons (ps_if (pt_val (pe_callB (r := rIsi K) call_isi rfl T.isi PyProof.Rows.boot_isinstance (pa_cons (pv 1) (pa_cons (pe_bltn (v := .ty "int") rfl T.int PyProof.Rows.boot_int rfl) pa_nil)))) (pss_one (ps_ret (pe_make MkC GI (hr.mono (by decide)) rfl T.mgC bI .nil passL (pa_cons (pe_op op_sub (pe_fld (pv 0) rfl) (pe_op op_mulW (pv 1) (pe_fld (pv 0) rfl))) (pa_cons (pe_fld (pv 0) rfl) pa_nil))))) pss_nil)
 (pss_one ps_never))), ?_⟩
    rcases hy with hy | ⟨rfl, rfl⟩
    · have ty := tyM T hy
      obtain ⟨a2, dx2, rfl, m1⟩ := hy
      refine ⟨_, rfl, _, _, _, _, true, rfl, .own C, ty, T.isC, true, rfl, iteT ?_⟩
      refine ⟨_, rfl, a, C, dx, _, _, rfl, hx, T.cl, T.nT, mf_top _ _, _, rfl, a2, C, dx2, _, _, rfl, m1, T.cl, T.nB, mf_bottom _ _, _, _, rfl, rfl, st.cmul sb', _, rfl, a2, C, dx2, _, _, rfl, m1, T.cl, T.nT, mf_top _ _, _, rfl, a, C, dx, _, _, rfl, hx, T.cl, T.nB, mf_bottom _ _, _, _, rfl, rfl, st'.cmul sb, _, _, rfl, rfl, _, rfl, a, C, dx, _, _, rfl, hx, T.cl, T.nB, mf_bottom _ _, _, rfl, a2, C, dx2, _, _, rfl, m1, T.cl, T.nB, mf_bottom _ _, _, _, rfl, rfl, sb.cmul sb', ?_⟩
      exact mk_rd (((st.mul sb').sub (st'.mul sb)).mono (by decide)) ((sb.mul sb').mono (by decide)) (Int.ne_of_gt (Int.mul_pos p1 p2)) fun t2 b2 v H' N e m => k t2 b2 v H' N e m
    · refine ⟨_, rfl, _, _, _, _, false, rfl, .own C, .base (.int _), T.iI, false, rfl, iteF ?_⟩
      refine ⟨_, rfl, _, _, _, _, true, rfl, .ty "int", .base (.int _), kit_ty (by decide +kernel), true, rfl, iteT ?_⟩
      refine ⟨_, rfl, a, C, dx, _, _, rfl, hx, T.cl, T.nT, mf_top _ _, _, rfl, _, rfl, a, C, dx, _, _, rfl, hx, T.cl, T.nB, mf_bottom _ _, _, _, rfl, rfl, st'.cmul sb, _, _, rfl, rfl, _, rfl, a, C, dx, _, _, rfl, hx, T.cl, T.nB, mf_bottom _ _, ?_⟩
      exact mk_rd (((st.mono (show 1900 ≤ 3800 by decide)).sub (st'.mul sb)).mono (by decide)) (sb.mono (by decide)) (Int.ne_of_gt p1) fun t2 b2 v H' N e m => k t2 b2 v H' (by unfold nSub dAll; rw [Int.mul_one, Int.mul_one]; exact N) e m
abbrev sRSub : Stmt := inClass (top 14) 15
theorem scRSub : FnScope ["self", "other"] ["self", "other"] (defScope sRSub) := ⟨rfl, rfl, rfl, by decide +kernel, rfl, by decide +kernel, by decide +kernel⟩
theorem ok_rsub {f fB : Addr} {fd fdB : FuncData} (F : Fun K "__rsub__" "Moment.__rsub__" sRSub f fd) (T : Txt K mg C) (TO : Opc K C) (O2 : Op2 K C "sub" fB) (GB : FnOk P w K mg base CX0 7 fB fdB ["self", "other"] (spBin C nSub dAll)) (bB : Binds K fdB ["self", "other"] [])
    (OA : Ok P w K mg base CX0 6 "as_moment" ["time"] (spAsM C)) : FnOk P w K mg base CX0 8 f fd ["self", "other"] (spBinR C nSub dAll) := by
  obtain ⟨fAm, fdAm, GAm, mAm, kAm, bAm⟩ := OA
  refine F.ok scRSub (fun vs H Q E h => ?_) (fun cdv A outer s H vs Q E hr h => ?_)
  · obtain ⟨x, y, t, b, t', b', rfl, _⟩ := h
    rfl
  · obtain ⟨x, y, t, b, t', b', rfl, hx, hy, p1, p2, st, sb, st', sb', k⟩ := h
    have oB := op_own (X := (cxOf CX0 P w K mg base ["self", "other"] "Moment.__rsub__" (defScope sRSub) f cdv A outer s H E).nox) (op := .Sub) (E := E0) TO io_sub O2 GB hr bB pass0
    refine ⟨_, (pss_one (ps_ret (pe_op oB (pe_call GAm (hr.mono (by decide)) rfl mAm kAm bAm .nil pass0 (pa_cons (pv 1) pa_nil)) (pv 0)))), ?_⟩
    refine ⟨_, rfl, y, t', b', rfl, hy, st'.mono (by decide), fun v2 H2 e2 m1 => ?_⟩
    refine ⟨_, rfl, m1.isC, .inl (hx.ex e2).isC, _, _, _, _, _, _, rfl, m1, .inl (hx.ex e2), p2, p1, st', sb', st, sb, fun t2 b2 v H' N e m => k t2 b2 v H' N (e2.trans e) m⟩
abbrev sMul : Stmt := inClass (top 14) 16
theorem scMul : FnScope ["self", "other"] ["self", "other"] (defScope sMul) := ⟨rfl, rfl, rfl, by decide +kernel, rfl, by decide +kernel, by decide +kernel⟩
theorem ok_mul {f : Addr} {fd : FuncData} (F : Fun K "__mul__" "Moment.__mul__" sMul f fd) (T : Txt K mg C) (OI : OkI P w K mg base C CN) (OT : Ok P w K mg base CX0 1 "is_time" ["value"] (spIsTime C)) (OA : Ok P w K mg base CX0 6 "as_moment" ["time"] (spAsM C)) :
    FnOk P w K mg base CX0 7 f fd ["self", "other"] (spBin C nMul dAll) := by
  obtain ⟨fI, fdI, dsI, GI, MkC, bI, vI1, bI1⟩ := OI
  refine F.ok scMul (fun vs H Q E h => ?_) (fun cdv A outer s H vs Q E hr h => ?_)
  · obtain ⟨x, y, t, b, t', b', rfl, _⟩ := h
    rfl
  · obtain ⟨x, y, t, b, t', b', rfl, hx, hy, p1, p2, st, sb, st', sb', k⟩ := h
    obtain ⟨a, dx, rfl, hx⟩ := hx
    refine ⟨_, (pss_cons (ps_if (pt_val (pe_callB (r := rIsi K) call_isi rfl T.isi PyProof.Rows.boot_isinstance (pa_cons (pv 1) (pa_cons (pe_glob (v := .ref C) rfl T.mgC rfl) pa_nil)))) (pss_one (ps_ret (pe_make MkC GI (hr.mono (by decide)) rfl T.mgC bI .nil passL (pa_cons (pe_op op_mulW (pe_fld (pv 0) rfl) (pe_fld (pv 1) rfl)) (pa_cons (pe_op op_mulW (pe_fld (pv 0) rfl) (pe_fld (pv 1) rfl)) pa_nil))))) pss_nil)
 (pss_cons (ps_if (pt_val (pe_callB (r := rIsi K) call_isi rfl T.isi PyProof.Rows.boot_isinstance (pa_cons (pv 1) (pa_cons (pe_bltn (v := .ty "int") rfl T.int PyProof.Rows.boot_int rfl) pa_nil)))) (pss_one (ps_ret (pe_make MkC GI (hr.mono (by decide)) rfl T.mgC bI .nil passL (pa_cons (pe_op op_mulW (pe_fld (pv 0) rfl) (pv 1)) (pa_cons (pe_fld (pv 0) rfl) pa_nil))))) pss_nil)
 (pss_one ps_never))), ?_⟩
    rcases hy with hy | ⟨rfl, rfl⟩
    · have ty := tyM T hy
      obtain ⟨a2, dx2, rfl, m1⟩ := hy
      refine ⟨_, rfl, _, _, _, _, true, rfl, .own C, ty, T.isC, true, rfl, iteT ?_⟩
      refine ⟨_, rfl, a, C, dx, _, _, rfl, hx, T.cl, T.nT, mf_top _ _, _, rfl, a2, C, dx2, _, _, rfl, m1, T.cl, T.nT, mf_top _ _, _, _, rfl, rfl, st.cmul st', _, rfl, a, C, dx, _, _, rfl, hx, T.cl, T.nB, mf_bottom _ _, _, rfl, a2, C, dx2, _, _, rfl, m1, T.cl, T.nB, mf_bottom _ _, _, _, rfl, rfl, sb.cmul sb', ?_⟩
      exact mk_rd ((st.mul st').mono (by decide)) ((sb.mul sb').mono (by decide)) (Int.ne_of_gt (Int.mul_pos p1 p2)) fun t2 b2 v H' N e m => k t2 b2 v H' N e m
    · refine ⟨_, rfl, _, _, _, _, false, rfl, .own C, .base (.int _), T.iI, false, rfl, iteF ?_⟩
      refine ⟨_, rfl, _, _, _, _, true, rfl, .ty "int", .base (.int _), kit_ty (by decide +kernel), true, rfl, iteT ?_⟩
      refine ⟨_, rfl, a, C, dx, _, _, rfl, hx, T.cl, T.nT, mf_top _ _, _, rfl, _, _, rfl, rfl, st.cmul st', _, rfl, a, C, dx, _, _, rfl, hx, T.cl, T.nB, mf_bottom _ _, ?_⟩
      exact mk_rd ((st.mul st').mono (by decide)) (sb.mono (by decide)) (Int.ne_of_gt p1) fun t2 b2 v H' N e m => k t2 b2 v H' (by unfold nMul dAll; rw [Int.mul_one]; exact N) e m
abbrev sRMul : Stmt := inClass (top 14) 17
theorem scRMul : FnScope ["self", "other"] ["self", "other"] (defScope sRMul) := ⟨rfl, rfl, rfl, by decide +kernel, rfl, by decide +kernel, by decide +kernel⟩
theorem ok_rmul {f fB : Addr} {fd fdB : FuncData} (F : Fun K "__rmul__" "Moment.__rmul__" sRMul f fd) (T : Txt K mg C) (TO : Opc K C) (O2 : Op2 K C "mul" fB) (GB : FnOk P w K mg base CX0 7 fB fdB ["self", "other"] (spBin C nMul dAll)) (bB : Binds K fdB ["self", "other"] [])
    (OA : Ok P w K mg base CX0 6 "as_moment" ["time"] (spAsM C)) : FnOk P w K mg base CX0 8 f fd ["self", "other"] (spBinR C nMul dAll) := by
  obtain ⟨fAm, fdAm, GAm, mAm, kAm, bAm⟩ := OA
  refine F.ok scRMul (fun vs H Q E h => ?_) (fun cdv A outer s H vs Q E hr h => ?_)
  · obtain ⟨x, y, t, b, t', b', rfl, _⟩ := h
    rfl
  · obtain ⟨x, y, t, b, t', b', rfl, hx, hy, p1, p2, st, sb, st', sb', k⟩ := h
    have oB := op_own (X := (cxOf CX0 P w K mg base ["self", "other"] "Moment.__rmul__" (defScope sRMul) f cdv A outer s H E).nox) (op := .Mult) (E := E0) TO io_mul O2 GB hr bB pass0
    refine ⟨_, (pss_one (ps_ret (pe_op oB (pe_call GAm (hr.mono (by decide)) rfl mAm kAm bAm .nil pass0 (pa_cons (pv 1) pa_nil)) (pv 0)))), ?_⟩
    refine ⟨_, rfl, y, t', b', rfl, hy, st'.mono (by decide), fun v2 H2 e2 m1 => ?_⟩
    refine ⟨_, rfl, m1.isC, .inl (hx.ex e2).isC, _, _, _, _, _, _, rfl, m1, .inl (hx.ex e2), p2, p1, st', sb', st, sb, fun t2 b2 v H' N e m => k t2 b2 v H' N (e2.trans e) m⟩
abbrev sFd : Stmt := inClass (top 14) 18
theorem scFd : FnScope ["self", "other", "time"] ["self", "other"] (defScope sFd) := ⟨rfl, rfl, rfl, by decide +kernel, rfl, by decide +kernel, by decide +kernel⟩
theorem ok_fd {f : Addr} {fd : FuncData} (F : Fun K "__floordiv__" "Moment.__floordiv__" sFd f fd) (T : Txt K mg C) (OT : Ok P w K mg base CX0 1 "is_time" ["value"] (spIsTime C)) (OA : Ok P w K mg base CX0 6 "as_moment" ["time"] (spAsM C)) :
    FnOk P w K mg base (L2.CX P w) 7 f fd ["self", "other"] (spFloor C) := by
  obtain ⟨fIt, fdIt, GIt, mIt, kIt, bIt⟩ := OT
  obtain ⟨fAm, fdAm, GAm, mAm, kAm, bAm⟩ := OA
  refine F.okX scFd (fun vs H Q E h => ?_) (fun cdv A outer s H vs Q E hr h => ?_)
  · obtain ⟨x, y, t, b, t', b', rfl, _⟩ := h
    rfl
  · obtain ⟨x, y, t, b, t', b', rfl, hx, hy, p1, p2, st, sb, st', sb', kE, kQ⟩ := h
    obtain ⟨a, dx, rfl, hx⟩ := hx
    refine ⟨_, (pss_cons (ps_if (pt_not (pt_val (pe_call GIt (hr.mono (by decide)) rfl mIt kIt bIt .nil pass0 (pa_cons (pv 1) pa_nil)))) (pss_one ps_never) pss_nil)
 (pss_cons (ps_set (i := 2) scFd.nd rfl (Or.inl rfl) (pe_call GAm (hr.mono (by decide)) rfl mAm kAm bAm .nil pass0 (pa_cons (pv 1) pa_nil)))
 (pss_one (ps_ret (pe_fdivX rfl (takes_of rfl rfl rfl rfl) (pe_op op_mulW (pe_fld (pv 0) rfl) (pe_fld (pv 2) rfl)) (pe_op op_mulW (pe_fld (pv 0) rfl) (pe_fld (pv 2) rfl))))))), ?_⟩
    refine ⟨_, rfl, y, t', b', rfl, hy, fun H1 e1 => ⟨true, rfl, iteF ?_⟩⟩
    refine ⟨_, rfl, y, t', b', rfl, hy.ex e1, st'.mono (by decide), fun v2 H2 e2 m1 => ?_⟩
    obtain ⟨a2, dx2, rfl, m1⟩ := m1
    have h1 := e2 _ _ (e1 _ _ hx)
    refine ⟨_, rfl, a, C, dx, _, _, rfl, h1, T.cl, T.nT, mf_top _ _, _, rfl, a2, C, dx2, _, _, rfl, m1, T.cl, T.nB, mf_bottom _ _, _, _, rfl, rfl, st.cmul sb', _, rfl, a, C, dx, _, _, rfl, h1, T.cl, T.nB, mf_bottom _ _, _, rfl, a2, C, dx2, _, _, rfl, m1, T.cl, T.nT, mf_top _ _, _, _, rfl, rfl, sb.cmul st', _, _, rfl, rfl, ?_⟩
    by_cases hz : t' = 0
    · exact .inr ⟨by rw [hz, Int.mul_zero], fun d => kE hz d _ (e1.trans e2)⟩
    · exact .inl ⟨(sb.mul st').cdiv (Int.mul_ne_zero (Int.ne_of_gt p1) hz), kQ hz _ (e1.trans e2)⟩
abbrev sRFd : Stmt := inClass (top 14) 19
theorem scRFd : FnScope ["self", "other"] ["self", "other"] (defScope sRFd) := ⟨rfl, rfl, rfl, by decide +kernel, rfl, by decide +kernel, by decide +kernel⟩
theorem ok_rfd {f fB : Addr} {fd fdB : FuncData} (F : Fun K "__rfloordiv__" "Moment.__rfloordiv__" sRFd f fd) (T : Txt K mg C) (TO : Opc K C) (O2 : Op2 K C "floordiv" fB) (GB : FnOk P w K mg base (L2.CX P w) 7 fB fdB ["self", "other"] (spFloor C)) (bB : Binds K fdB ["self", "other"] [])
    (OA : Ok P w K mg base CX0 6 "as_moment" ["time"] (spAsM C)) : FnOk P w K mg base (L2.CX P w) 8 f fd ["self", "other"] (spFloorR C) := by
  obtain ⟨fAm, fdAm, GAm, mAm, kAm, bAm⟩ := OA
  refine F.okX scRFd (fun vs H Q E h => ?_) (fun cdv A outer s H vs Q E hr h => ?_)
  · obtain ⟨x, y, t, b, t', b', rfl, _⟩ := h
    rfl
  · obtain ⟨x, y, t, b, t', b', rfl, hx, hy, p1, p2, st, sb, st', sb', kE, kQ⟩ := h
    have oB := op_own (X := cxOf (L2.CX P w) P w K mg base ["self", "other"] "Moment.__rfloordiv__" (defScope sRFd) f cdv A outer s H E) (op := .FloorDiv) (E := E) TO io_floordiv O2 GB hr bB (passes_call (takes_of rfl rfl rfl rfl) fun _ _ _ _ h => h)
    refine ⟨_, (pss_one (ps_ret (pe_op oB (pe_call GAm (hr.mono (by decide)) rfl mAm kAm bAm .nil pass0 (pa_cons (pv 1) pa_nil)) (pv 0)))), ?_⟩
    refine ⟨_, rfl, y, t', b', rfl, hy, st'.mono (by decide), fun v2 H2 e2 m1 => ?_⟩
    exact ⟨_, rfl, m1.isC, .inl (hx.ex e2).isC, _, _, _, _, _, _, rfl, m1, .inl (hx.ex e2), p2, p1, st', sb', st, sb, fun hz d H' e => kE hz d H' (e2.trans e), fun hz H' e => kQ hz H' (e2.trans e)⟩
abbrev sMd : Stmt := inClass (top 14) 20
theorem scMd : FnScope ["self", "other"] ["self", "other"] (defScope sMd) := ⟨rfl, rfl, rfl, by decide +kernel, rfl, by decide +kernel, by decide +kernel⟩
theorem ok_md {f fF fM fS : Addr} {fd dF dM dS : FuncData} (F : Fun K "__mod__" "Moment.__mod__" sMd f fd) (T : Txt K mg C) (TO : Opc K C) (OT : Ok P w K mg base CX0 1 "is_time" ["value"] (spIsTime C))
    (F2 : Op2 K C "floordiv" fF) (GF : FnOk P w K mg base (L2.CX P w) 7 fF dF ["self", "other"] (spFloor C)) (bF : Binds K dF ["self", "other"] [])
    (M2 : Op2 K C "mul" fM) (GM : FnOk P w K mg base CX0 7 fM dM ["self", "other"] (spBin C nMul dAll)) (bM : Binds K dM ["self", "other"] [])
    (S2 : Op2 K C "sub" fS) (GS : FnOk P w K mg base CX0 7 fS dS ["self", "other"] (spBin C nSub dAll)) (bS : Binds K dS ["self", "other"] []) :
    FnOk P w K mg base (L2.CX P w) 8 f fd ["self", "other"] (spMod C) := by
  obtain ⟨fIt, fdIt, GIt, mIt, kIt, bIt⟩ := OT
  refine F.okX scMd (fun vs H Q E h => ?_) (fun cdv A outer s H vs Q E hr h => ?_)
  · obtain ⟨x, y, t, b, t', b', rfl, _⟩ := h
    rfl
  · obtain ⟨x, y, t, b, t', b', rfl, hx, hy, p1, p2, st, sb, st', sb', kE, kQ⟩ := h
    let X := cxOf (L2.CX P w) P w K mg base ["self", "other"] "Moment.__mod__" (defScope sMd) f cdv A outer s H E
    have oF := op_own (X := X) (op := .FloorDiv) (E := E) TO io_floordiv F2 GF hr bF (passes_call (takes_of rfl rfl rfl rfl) fun _ _ _ _ h => h)
    have oMl := (op_own (X := X) (op := .Mult) (E := E0) TO io_mul M2 GM hr bM pass0).or (op_mulW (X := X))
    have oS := op_own (X := X) (op := .Sub) (E := E0) TO io_sub S2 GS hr bS pass0
    refine ⟨_, (pss_cons (ps_if (pt_not (pt_val (pe_call GIt (hr.mono (by decide)) rfl mIt kIt bIt .nil pass0 (pa_cons (pv 1) pa_nil)))) (pss_one ps_never) pss_nil)
 (pss_one (ps_ret (pe_op oS (pv 0) (pe_op oMl (pv 1) (pe_op oF (pv 0) (pv 1))))))), ?_⟩
    refine ⟨_, rfl, y, t', b', rfl, hy, fun H1 e1 => ⟨true, rfl, iteF ?_⟩⟩
    have hx := hx.ex e1
    have hy := hy.ex e1
    have one : Sm 1900 1 := (sml (n := 1) (k := 2) (by decide)).mono (by decide)
    refine ⟨_, rfl, _, rfl, _, rfl, _, rfl, hx.isC, hy.op, x, y, t, b, t', b', rfl, hx, hy, p1, p2, st.mono (by decide), sb.mono (by decide), st'.mono (by decide), sb'.mono (by decide), fun hz d H' e => kE hz d H' (e1.trans e), fun hz H2 e2 => ?_⟩
    have hx := hx.ex e2
    have hy := hy.ex e2
    have kQ := kQ hz
    have sq : Sm 800 ((t * b').fdiv (b * t')) := sm_fdiv (st.mul sb')
    unfold Rest at kQ
    generalize (t * b').fdiv (b * t') = q at *
    rcases hy with hy | ⟨rfl, rfl⟩
    · refine .inl ⟨hy.isC, .inr ⟨_, rfl⟩, y, _, t', b', q, 1, rfl, hy, .inr ⟨rfl, rfl⟩, p2, by decide, st'.mono (by decide), sb'.mono (by decide), sq.mono (by decide), one, fun t3 b3 v H3 N1 e3 m3 => ?_⟩
      have s3 : Sm 1200 t3 := N1.st (st'.mul sq)
      have s4 : Sm 402 b3 := N1.sb (sb'.mul (sml (n := 1) (k := 2) (by decide)))
      refine ⟨(hx.ex e3).isC, .inl m3.isC, _, _, t, b, t3, b3, rfl, hx.ex e3, .inl m3, p1, N1.pos, st.mono (by decide), sb.mono (by decide), s3.mono (by decide), s4.mono (by decide), fun t2 b2 v2 H4 N2 e4 m4 => ?_⟩
      exact kQ t2 b2 v2 H4 N2.red (mod_eqM N1 N2) ((N2.st (((st.mul s4).mono (show 400 + 402 ≤ 1600 by decide)).sub ((s3.mul sb).mono (show 1200 + 400 ≤ 1600 by decide)))).mono (by decide)) ((N2.sb (sb.mul s4)).mono (by decide)) (((e1.trans e2).trans e3).trans e4) m4
    · have s3 : Sm 1200 (t' * q) := st'.mul sq
      refine .inr ⟨_, _, rfl, rfl, st'.cmul sq, hx.isC, .inr ⟨_, rfl⟩, _, _, t, b, t' * q, 1, rfl, hx, .inr ⟨rfl, rfl⟩, p1, by decide, st.mono (by decide), sb.mono (by decide), s3.mono (by decide), one, fun t2 b2 v2 H4 N2 e4 m4 => ?_⟩
      exact kQ t2 b2 v2 H4 N2.red (mod_eqI N2) ((N2.st (((st.mul (sml (n := 1) (k := 2) (by decide))).mono (show 400 + 2 ≤ 1600 by decide)).sub ((s3.mul sb).mono (show 1200 + 400 ≤ 1600 by decide)))).mono (by decide)) ((N2.sb (sb.mul (sml (n := 1) (k := 2) (by decide)))).mono (by decide)) ((e1.trans e2).trans e4) m4
abbrev sRMd : Stmt := inClass (top 14) 21
theorem scRMd : FnScope ["self", "other"] ["self", "other"] (defScope sRMd) := ⟨rfl, rfl, rfl, by decide +kernel, rfl, by decide +kernel, by decide +kernel⟩
theorem ok_rmd {f fB : Addr} {fd fdB : FuncData} (F : Fun K "__rmod__" "Moment.__rmod__" sRMd f fd) (T : Txt K mg C) (TO : Opc K C) (O2 : Op2 K C "mod" fB) (GB : FnOk P w K mg base (L2.CX P w) 8 fB fdB ["self", "other"] (spMod C)) (bB : Binds K fdB ["self", "other"] [])
    (OA : Ok P w K mg base CX0 6 "as_moment" ["time"] (spAsM C)) : FnOk P w K mg base (L2.CX P w) 9 f fd ["self", "other"] (spModR C) := by
  obtain ⟨fAm, fdAm, GAm, mAm, kAm, bAm⟩ := OA
  refine F.okX scRMd (fun vs H Q E h => ?_) (fun cdv A outer s H vs Q E hr h => ?_)
  · obtain ⟨x, y, t, b, t', b', rfl, _⟩ := h
    rfl
  · obtain ⟨x, y, t, b, t', b', rfl, hx, hy, p1, p2, st, sb, st', sb', kE, kQ⟩ := h
    have oB := op_own (X := cxOf (L2.CX P w) P w K mg base ["self", "other"] "Moment.__rmod__" (defScope sRMd) f cdv A outer s H E) (op := .Mod) (E := E) TO io_mod O2 GB hr bB (passes_call (takes_of rfl rfl rfl rfl) fun _ _ _ _ h => h)
    refine ⟨_, (pss_one (ps_ret (pe_op oB (pe_call GAm (hr.mono (by decide)) rfl mAm kAm bAm .nil pass0 (pa_cons (pv 1) pa_nil)) (pv 0)))), ?_⟩
    refine ⟨_, rfl, y, t', b', rfl, hy, st'.mono (by decide), fun v2 H2 e2 m1 => ?_⟩
    exact ⟨_, rfl, m1.isC, .inl (hx.ex e2).isC, _, _, _, _, _, _, rfl, m1, .inl (hx.ex e2), p2, p1, st', sb', st, sb, fun hz d H' e => kE hz d H' (e2.trans e), fun hz t2 b2 v H' r q s1 s2 e m => kQ hz t2 b2 v H' r q s1 s2 (e2.trans e) m⟩
abbrev sOv : Stmt := inClass (top 14) 23
theorem scOv : FnScope ["self", "other", "time"] ["self", "other"] (defScope sOv) := ⟨rfl, rfl, rfl, by decide +kernel, rfl, by decide +kernel, by decide +kernel⟩
theorem ok_over {f : Addr} {fd : FuncData} (F : Fun K "over" "Moment.over" sOv f fd) (T : Txt K mg C) (gZD : mg "ZeroDivisionError" = none) (OI : OkI P w K mg base C CN) (OA : Ok P w K mg base CX0 6 "as_moment" ["time"] (spAsM C)) : FnOk P w K mg base (L2.CX P w) 7 f fd ["self", "other"] (spOver C) := by
  obtain ⟨fI, fdI, dsI, GI, MkC, bI, vI1, bI1⟩ := OI
  obtain ⟨fAm, fdAm, GAm, mAm, kAm, bAm⟩ := OA
  refine F.okX scOv (fun vs H Q E h => ?_) (fun cdv A outer s H vs Q E hr h => ?_)
  · obtain ⟨x, y, t, b, t', b', rfl, _⟩ := h
    rfl
  · obtain ⟨x, y, t, b, t', b', rfl, hx, hy, p1, st, sb, st', sb', kE, kQ⟩ := h
    obtain ⟨a, dx, rfl, hx⟩ := hx
    refine ⟨_, (pss_cons (ps_set (i := 2) scOv.nd rfl (Or.inl rfl) (pe_call GAm (hr.mono (by decide)) rfl mAm kAm bAm .nil pass0 (pa_cons (pv 1) pa_nil)))
 (pss_cons (ps_if (pt_cmpR op_eq (pe_fld (pv 2) rfl) pe_int (nomark _)) (pss_one (ps_raiseB rfl (takes_of rfl rfl rfl rfl) exb_ZeroDivisionError rfl gZD boot_ZeroDivisionError)) pss_nil)
 (pss_one (ps_ret (pe_make MkC GI (hr.mono (by decide)) rfl T.mgC bI .nil passL (pa_cons (pe_op op_mulW (pe_fld (pv 0) rfl) (pe_fld (pv 2) rfl)) (pa_cons (pe_op op_mulW (pe_fld (pv 0) rfl) (pe_fld (pv 2) rfl)) pa_nil))))))), ?_⟩
    refine ⟨_, rfl, y, t', b', rfl, hy, st'.mono (by decide), fun v2 H2 e2 m1 => ?_⟩
    obtain ⟨a2, dx2, rfl, m1⟩ := m1
    have h1 := e2 _ _ hx
    refine ⟨_, rfl, a2, C, dx2, _, _, rfl, m1, T.cl, T.nT, mf_top _ _, rfl, _, rfl, ?_⟩
    refine ite2 (fun z => ?_) (fun z => ?_)
    · have hz : t' = 0 := by
        have z := of_decide_eq_true z
        injection z
      exact kE hz _ _ e2
    · have hz : t' ≠ 0 := fun q => z (decide_eq_true (by rw [q]))
      refine ⟨_, rfl, a, C, dx, _, _, rfl, h1, T.cl, T.nT, mf_top _ _, _, rfl, a2, C, dx2, _, _, rfl, m1, T.cl, T.nB, mf_bottom _ _, _, _, rfl, rfl, st.cmul sb', _, rfl, a, C, dx, _, _, rfl, h1, T.cl, T.nB, mf_bottom _ _, _, rfl, a2, C, dx2, _, _, rfl, m1, T.cl, T.nT, mf_top _ _, _, _, rfl, rfl, sb.cmul st', ?_⟩
      exact mk_rd ((st.mul sb').mono (by decide)) ((sb.mul st').mono (by decide)) (Int.mul_ne_zero (by omega) hz) fun t2 b2 v H' N e m => kQ hz t2 b2 v H' N (e2.trans e) m
abbrev sNg : Stmt := inClass (top 14) 5
theorem scNg : FnScope ["self"] ["self"] (defScope sNg) := ⟨rfl, rfl, rfl, by decide +kernel, rfl, by decide +kernel, by decide +kernel⟩
theorem ok_neg {f : Addr} {fd : FuncData} (F : Fun K "__neg__" "Moment.__neg__" sNg f fd) (T : Txt K mg C) (OI : OkI P w K mg base C CN) : FnOk P w K mg base CX0 6 f fd ["self"] (spNeg C) := by
  obtain ⟨fI, fdI, dsI, GI, MkC, bI, vI1, bI1⟩ := OI
  refine F.ok scNg (fun vs H Q E h => ?_) (fun cdv A outer s H vs Q E hr h => ?_)
  · obtain ⟨x, t, b, rfl, _⟩ := h
    rfl
  · obtain ⟨x, t, b, rfl, hx, p1, st, sb, k⟩ := h
    obtain ⟨a, dx, rfl, hx⟩ := hx
    refine ⟨_, (pss_one (ps_ret (pe_make MkC GI (hr.mono (by decide)) rfl T.mgC bI .nil passL (pa_cons (pe_un un_neg (pe_fld (pv 0) rfl)) (pa_cons (pe_fld (pv 0) rfl) pa_nil))))), ?_⟩
    refine ⟨_, rfl, a, C, dx, _, _, rfl, hx, T.cl, T.nT, mf_top _ _, _, rfl, _, rfl, a, C, dx, _, _, rfl, hx, T.cl, T.nB, mf_bottom _ _, ?_⟩
    exact mk_rd (st.neg.mono (by decide)) (sb.mono (by decide)) (Int.ne_of_gt p1) k
abbrev sRo : Stmt := top 103
theorem scRo : FnScope ["_law_cell_here", "_law_sizes", "_law_out", "_law_size", "_law_seed", "_law_k", "_law_mixed"] ["_law_cell_here", "_law_sizes"] (defScope sRo) := ⟨rfl, rfl, rfl, by decide +kernel, rfl, by decide +kernel, by decide +kernel⟩
theorem getEl {ys zs : List Int} (hl : ys.length = zs.length) : True := trivial
theorem row_more {ys zs : List Int} {y z : Int} {i : Nat} (hy : ys.length = i) (hz : zs[i]? = some z) (h0 : 0 ≤ y) (h1 : y < z) (hb : ∀ (j : Nat) (a b : Int), ys[j]? = some a → zs[j]? = some b → 0 ≤ a ∧ a < b) :
    ∀ (j : Nat) (a b : Int), (ys ++ [y])[j]? = some a → zs[j]? = some b → 0 ≤ a ∧ a < b := by
  intro j a b e1 e2
  by_cases hj : j < i
  · rw [List.getElem?_append_left (by omega)] at e1
    exact hb j a b e1 e2
  · have : j = i := by
      have := (List.getElem?_eq_some_iff.mp e1).1
      simp at this
      omega
    subst this
    rw [List.getElem?_append_right (by omega), hy] at e1
    simp at e1
    subst e1
    rw [hz] at e2
    cases e2
    exact ⟨h0, h1⟩
theorem sm31 {z : Int} (h : 0 ≤ z ∧ z < 2147483648) : Sm 31 z := by
  unfold Sm
  omega
theorem ok_row {f : Addr} {fd : FuncData} (F : Fun K "_law_row" "_law_row" sRo f fd) (T : Txt K mg C) : FnOk P w K mg base CX0 1 f fd ["_law_cell_here", "_law_sizes"] (spRow K) := by
  refine F.ok scRo (fun vs H Q E h => ?_) (fun cdv A outer s H vs Q E hr h => ?_)
  · obtain ⟨c, l, zs, rfl, _⟩ := h
    rfl
  · obtain ⟨c, l, zs, rfl, hS, hl, hb, k⟩ := h
    refine ⟨_, (pss_cons (ps_set (i := 2) scRo.nd rfl (Or.inl rfl) (pe_lst pa_nil))
 (pss_cons (ps_if (pt_cmpR op_ge (pv 0) (pe_op op_pow pe_int pe_int) (nomark _)) (pss_cons (ps_for PassesOwn.never rfl (pi_list (pv 1)) (pg_name (i := 3) scRo.nd rfl (Or.inl rfl)) (pss_cons (ps_expr (pe_bm PySem.F.plainAttrs_list PySem.F.slot_list_append PySem.F.type_list_append mt_append (pv 2) (pa_cons (pe_op op_mod (pe_callTy call_int1 rfl T.int PyProof.Rows.boot_int (pa_cons (pv 0) pa_nil)) (pv 3)) pa_nil)))
 (pss_one (ps_set (i := 0) scRo.nd rfl (Or.inl rfl) (pe_op op_fdivNW (pv 0) (pv 3))))))
 (pss_one (ps_ret (pv 2)))) pss_nil)
 (pss_cons (ps_set (i := 4) scRo.nd rfl (Or.inl rfl) (pe_op op_mod (pe_callTy call_int1 rfl T.int PyProof.Rows.boot_int (pa_cons (pv 0) pa_nil)) pe_int))
 (pss_cons (ps_for PassesOwn.never rfl (pi_range1 rfl T.range (pa_cons (pe_callB call_len rfl T.len PySem.boot_len (pa_cons (pv 1) pa_nil)) pa_nil)) (pg_name (i := 5) scRo.nd rfl (Or.inl rfl)) (pss_cons (ps_set (i := 6) scRo.nd rfl (Or.inl rfl) (pe_op op_add (pe_op op_mod (pe_callTy call_int1 rfl T.int PyProof.Rows.boot_int (pa_cons (pe_op op_pow (pe_op op_add (pe_op op_add (pv 4) (pe_op op_mulW pe_int (pv 5))) pe_int) pe_int) pa_nil)) pe_int) (pv 5)))
 (pss_one (ps_expr (pe_bm PySem.F.plainAttrs_list PySem.F.slot_list_append PySem.F.type_list_append mt_append (pv 2) (pa_cons (pe_op op_mod (pe_callTy call_int1 rfl T.int PyProof.Rows.boot_int (pa_cons (pe_op op_mod (pe_callTy call_int1 rfl T.int PyProof.Rows.boot_int (pa_cons (pe_op op_mulW (pv 6) pe_int) pa_nil)) pe_int) pa_nil)) (pe_ix ix_list (pv 1) (pv 5) (fun _ _ => rfl))) pa_nil))))))
 (pss_one (ps_ret (pv 2))))))), ?_⟩
    refine ⟨by show 0 ≤ sizeLine; decide, fun o ho => ?_⟩
    have x0 : Ex H (upd H o (.lst [])) := Ex.new ho
    have hS' : ∀ {H' : Hp}, Ex H H' → SqL K H' l (zs.map V.int) := fun e => Evl.ex_l e hS
    refine ⟨_, rfl, _, _, rfl, rfl, ⟨by decide, by decide, by decide⟩, _, _, rfl, rfl, _, rfl, ?_⟩
    refine ite2 (fun e1 => ?_) (fun e1 => ?_)
    · refine ⟨_, rfl, l, rfl, ⟨_, hS' x0⟩, for_list (K := K) (a := l) (xs := zs.map V.int) (fun i σ H' => ∃ (c : Int) (ys : List Int) (v : Option V), σ = [some (.int c), some (.ref l), some (.ref o), v, none, none, none] ∧ Ex H H' ∧ H' o = some (.lst (ys.map V.int)) ∧ ys.length = i ∧
          ∀ (j : Nat) (a b : Int), ys[j]? = some a → zs[j]? = some b → 0 ≤ a ∧ a < b) ⟨c, [], none, rfl, x0, upd_same, rfl, fun j a b e => by simp at e⟩ (fun i σ H' _ ⟨_, _, _, _, e, _⟩ => hS' e) ?_ ?_⟩
      · rintro i y σ H' hi ⟨c, ys, v, rfl, e, hO, hy, hB⟩
        obtain ⟨z, hz, rfl⟩ : ∃ z, zs[i]? = some z ∧ y = V.int z := by
          rw [List.getElem?_map] at hi
          cases e : zs[i]? with
          | none =>
            rw [e] at hi
            cases hi
          | some z =>
            rw [e] at hi
            exact ⟨z, rfl, (Option.some.inj hi).symm⟩
        obtain ⟨z0, z1⟩ := hb z (List.mem_of_getElem? hz)
        refine ⟨_, rfl, .inl ⟨rfl, _, SqL.of hO⟩, _, rfl, .inl ⟨_, rfl, _, rfl, _, _, rfl, rfl, z0, o, _, _, rfl, rfl, hO, ?_, ?_⟩⟩
        · rw [List.length_map]
          exact small1000 (by have := (List.getElem?_eq_some_iff.mp hz).1; omega)
        · refine ⟨_, rfl, _, rfl, _, _, rfl, rfl, (sm31 (z := z) ⟨by omega, by omega⟩).cdiv (by omega), ?_⟩
          refine ⟨_, ys ++ [c % z], _, rfl, Evl.Ex.mut e ho, ?_, by simp [hy], row_more hy hz (Int.emod_nonneg c (by omega)) (Int.emod_lt_of_pos c z0) hB⟩
          rw [upd_same, List.map_append]
          rfl
      · rintro σ H' ⟨c, ys, v, rfl, e, hO, hy, hB⟩
        rw [List.length_map] at hy
        exact ⟨_, rfl, k o ys H' e hO hy hB⟩
    · refine ⟨_, rfl, .inl ⟨_, rfl, _, _, rfl, rfl, (by show (0 : Int) < 2147483647; decide), ?_⟩⟩
      have s0 := Int.emod_nonneg c (show (2147483647 : Int) ≠ 0 by decide)
      have s1 := Int.emod_lt_of_pos c (show (0 : Int) < 2147483647 by decide)
      refine ⟨_, rfl, _, _, rfl, .inl ⟨_, hS' x0, rfl⟩, ?_⟩
      rw [List.length_map]
      refine ⟨(zs.length : Int), rfl, by omega, by omega, for_range (lo := 0) (n := ((zs.length : Int)).toNat) (fun i σ H' => ∃ (ys : List Int) (v4 v5 : Option V), σ = [some (.int c), some (.ref l), some (.ref o), none, some (.int (c % 2147483647)), v4, v5] ∧ Ex H H' ∧ H' o = some (.lst (ys.map V.int)) ∧ ys.length = i ∧
          ∀ (j : Nat) (a b : Int), ys[j]? = some a → zs[j]? = some b → 0 ≤ a ∧ a < b) ⟨[], none, none, rfl, x0, upd_same, rfl, fun j a b e => by simp at e⟩ ?_ ?_⟩
      · rintro i σ H' hi ⟨ys, v4, v5, rfl, e, hO, hy, hB⟩
        have hi' : i < zs.length := by omega
        have hz : zs[i]? = some zs[i] := List.getElem?_eq_getElem hi'
        obtain ⟨z0, z1⟩ := hb _ (List.mem_of_getElem? hz)
        generalize zs[i] = z at *
        have e0 : (0 : Int) + (i : Int) = (i : Int) := Int.zero_add _
        rw [e0]
        have m1 : CMulW 7919 (i : Int) := Sm.cmul (k := 31) (j := 31) (sm31 ⟨by decide, by decide⟩) (sm31 ⟨by omega, by omega⟩)
        have b1 : (c % 2147483647 + 7919 * (i : Int) + 104729).natAbs < 2 ^ 64 := by omega
        refine ⟨_, rfl, _, rfl, _, _, rfl, rfl, m1, _, _, rfl, rfl, _, _, rfl, rfl, _, _, rfl, rfl, ⟨by decide, by decide, b1⟩, .inl ⟨_, rfl, _, _, rfl, rfl, (by show (0 : Int) < 2147483647; decide), _, rfl, _, _, rfl, rfl, ?_⟩⟩
        have p0 := Int.emod_nonneg ((c % 2147483647 + 7919 * (i : Int) + 104729) ^ (5 : Int).toNat) (show (2147483647 : Int) ≠ 0 by decide)
        have p1 := Int.emod_lt_of_pos ((c % 2147483647 + 7919 * (i : Int) + 104729) ^ (5 : Int).toNat) (show (0 : Int) < 2147483647 by decide)
        have m2 : CMulW ((c % 2147483647 + 7919 * (i : Int) + 104729) ^ (5 : Int).toNat % 2147483647 + (i : Int)) 40692 := Sm.cmul (k := 32) (j := 31) (by unfold Sm; omega) (sm31 ⟨by decide, by decide⟩)
        refine ⟨_, rfl, .inl ⟨rfl, _, SqL.of hO⟩, _, rfl, _, _, rfl, rfl, m2, .inl ⟨_, rfl, _, _, rfl, rfl, (by show (0 : Int) < 2147483629; decide), .inl ⟨_, rfl, _, rfl, _, rfl, l, _, _, .int z, rfl, rfl, hS' e, atI_nat (by rw [List.getElem?_map, hz]; rfl), _, _, rfl, rfl, z0, o, _, _, rfl, rfl, hO, ?_, ?_⟩⟩⟩
        · rw [List.length_map]
          exact small1000 (by omega)
        · refine ⟨ys ++ [((c % 2147483647 + 7919 * (i : Int) + 104729) ^ (5 : Int).toNat % 2147483647 + (i : Int)) * 40692 % 2147483629 % z], _, _, rfl, Evl.Ex.mut e ho, ?_, by simp [hy], row_more hy hz (Int.emod_nonneg _ (by omega)) (Int.emod_lt_of_pos _ z0) hB⟩
          rw [upd_same, List.map_append]
          rfl
      · rintro σ H' ⟨ys, v4, v5, rfl, e, hO, hy, hB⟩
        exact ⟨_, rfl, k o ys H' e hO (by omega) hB⟩
/-- the moment's class with all of its methods -/
structure MoE (P : Program) (w : World) (K : PySem.W.Frag) (mg : Str → Option Value) (base : Heap) (C CN : Addr) : Prop where
  T : Txt K mg C
  TO : Opc K C
  ic : PySem.W.isClsIn K C = true
  ty : PySem.W.typeIn K (.ref C) = some (.type "type")
  ne : PySem.W.findIn K (.ref C) "__ne__" = some (some (.builtin "object.__ne__"))
  zd : mg "ZeroDivisionError" = none
  I : OkI P w K mg base C CN
  A : Ok P w K mg base CX0 6 "as_moment" ["time"] (spAsM C)
  add : ∃ f fd, Op2 K C "add" f ∧ FnOk P w K mg base CX0 7 f fd ["self", "other"] (spBin C nAdd dAll) ∧ Binds K fd ["self", "other"] []
  sub : ∃ f fd, Op2 K C "sub" f ∧ FnOk P w K mg base CX0 7 f fd ["self", "other"] (spBin C nSub dAll) ∧ Binds K fd ["self", "other"] []
  mul : ∃ f fd, Op2 K C "mul" f ∧ FnOk P w K mg base CX0 7 f fd ["self", "other"] (spBin C nMul dAll) ∧ Binds K fd ["self", "other"] []
  fdv : ∃ f fd, Op2 K C "floordiv" f ∧ FnOk P w K mg base (L2.CX P w) 7 f fd ["self", "other"] (spFloor C) ∧ Binds K fd ["self", "other"] []
  mod : ∃ f fd, Op2 K C "mod" f ∧ FnOk P w K mg base (L2.CX P w) 8 f fd ["self", "other"] (spMod C) ∧ Binds K fd ["self", "other"] []
  neg : ∃ f fd, PySem.W.findIn K (.ref C) "__neg__" = some (some (.ref f)) ∧ PySem.W.isFn K (.ref f) = true ∧ FnOk P w K mg base CX0 6 f fd ["self"] (spNeg C) ∧ Binds K fd ["self"] []
  eq : ∃ f fd, PySem.W.findIn K (.ref C) "__eq__" = some (some (.ref f)) ∧ PySem.W.isFn K (.ref f) = true ∧ FnOk P w K mg base CX0 1 f fd ["self", "other"] (spEq2 C) ∧ Binds K fd ["self", "other"] []
  lt : ∃ f fd, PySem.W.findIn K (.ref C) "__lt__" = some (some (.ref f)) ∧ PySem.W.isFn K (.ref f) = true ∧ FnOk P w K mg base CX0 7 f fd ["self", "other"] (spCmp C gLt) ∧ Binds K fd ["self", "other"] []
  le : ∃ f fd, PySem.W.findIn K (.ref C) "__le__" = some (some (.ref f)) ∧ PySem.W.isFn K (.ref f) = true ∧ FnOk P w K mg base CX0 7 f fd ["self", "other"] (spCmp C gLe) ∧ Binds K fd ["self", "other"] []
  gt : ∃ f fd, PySem.W.findIn K (.ref C) "__gt__" = some (some (.ref f)) ∧ PySem.W.isFn K (.ref f) = true ∧ FnOk P w K mg base CX0 7 f fd ["self", "other"] (spCmp C gGt) ∧ Binds K fd ["self", "other"] []
  ge : ∃ f fd, PySem.W.findIn K (.ref C) "__ge__" = some (some (.ref f)) ∧ PySem.W.isFn K (.ref f) = true ∧ FnOk P w K mg base CX0 7 f fd ["self", "other"] (spCmp C gGe) ∧ Binds K fd ["self", "other"] []
section
variable {X : Cx}
theorem MoE.oAdd (M : MoE X.prog X.w X.K X.mg X.base C CN) (hr : Room 7 X.A) : OpR X (binaryOp .Add) (rOwn C (spBin C nAdd dAll) E0) := by
  obtain ⟨f, fd, o, F, b⟩ := M.add
  exact op_own M.TO io_add o F hr b pass0
theorem MoE.oSub (M : MoE X.prog X.w X.K X.mg X.base C CN) (hr : Room 7 X.A) : OpR X (binaryOp .Sub) (rOwn C (spBin C nSub dAll) E0) := by
  obtain ⟨f, fd, o, F, b⟩ := M.sub
  exact op_own M.TO io_sub o F hr b pass0
theorem MoE.oMul (M : MoE X.prog X.w X.K X.mg X.base C CN) (hr : Room 7 X.A) : OpR X (binaryOp .Mult) (rOwn C (spBin C nMul dAll) E0) := by
  obtain ⟨f, fd, o, F, b⟩ := M.mul
  exact op_own M.TO io_mul o F hr b pass0
theorem MoE.oFdv (M : MoE X.prog X.w X.K X.mg X.base C CN) (hr : Room 7 X.A) : OpR X (binaryOp .FloorDiv) (rOwn C (spFloor C) E0) := by
  obtain ⟨f, fd, o, F, b⟩ := M.fdv
  exact op_own M.TO io_floordiv o F hr b passL
theorem MoE.oMod (M : MoE X.prog X.w X.K X.mg X.base C CN) (hr : Room 8 X.A) : OpR X (binaryOp .Mod) (rOwn C (spMod C) E0) := by
  obtain ⟨f, fd, o, F, b⟩ := M.mod
  exact op_own M.TO io_mod o F hr b passL
theorem MoE.oNeg (M : MoE X.prog X.w X.K X.mg X.base C CN) (hr : Room 6 X.A) : UnR X (unaryOp .USub) (rOne C (spNeg C) E0) := by
  obtain ⟨f, fd, h1, h2, F, b⟩ := M.neg
  exact un_own h1 h2 F hr b pass0
theorem MoE.oLt (M : MoE X.prog X.w X.K X.mg X.base C CN) (hr : Room 7 X.A) : OpR X (compareOp .Lt) (rCmp C (spCmp C gLt) E0) := by
  obtain ⟨f, fd, h1, h2, F, b⟩ := M.lt
  exact op_cmp (fun _ _ => rfl) h1 h2 F hr b pass0
theorem MoE.oLe (M : MoE X.prog X.w X.K X.mg X.base C CN) (hr : Room 7 X.A) : OpR X (compareOp .LtE) (rCmp C (spCmp C gLe) E0) := by
  obtain ⟨f, fd, h1, h2, F, b⟩ := M.le
  exact op_cmp (fun _ _ => rfl) h1 h2 F hr b pass0
theorem MoE.oGe (M : MoE X.prog X.w X.K X.mg X.base C CN) (hr : Room 7 X.A) : OpR X (compareOp .GtE) (rCmp C (spCmp C gGe) E0) := by
  obtain ⟨f, fd, h1, h2, F, b⟩ := M.ge
  exact op_cmp (fun _ _ => rfl) h1 h2 F hr b pass0
theorem MoE.oEq (M : MoE X.prog X.w X.K X.mg X.base C CN) (hr : Room 2 X.A) : OpR X (compareOp .Eq) (rCmp C (spEq2 C) E0) := by
  obtain ⟨f, fd, h1, h2, F, b⟩ := M.eq
  exact op_cmp (fun _ _ => rfl) h1 h2 F (hr.mono (by decide)) b pass0
theorem MoE.oNe (M : MoE X.prog X.w X.K X.mg X.base C CN) (hr : Room 2 X.A) : OpR X (compareOp .NotEq) (rNeO C (spEq2 C) E0) := by
  obtain ⟨f, fd, h1, h2, F, b⟩ := M.eq
  exact op_neO M.TO M.ne h1 h2 F hr b pass0
theorem MoE.oLeT (M : MoE X.prog X.w X.K X.mg X.base C CN) (hr : Room 8 X.A) : OpR X (compareOp .LtE) (rLeG X.K (DeM C) (DfM C)) := by
  obtain ⟨f, fd, h1, h2, F, b⟩ := M.le
  obtain ⟨g, gd, g1, g2, G, b2⟩ := M.eq
  have he := eqB_M G g1 g2 b2
  exact op_leG (n := 7) hr mon_DeM mon_DfM (fun A pins s σ H x y u v c sb => he A pins s σ H x y u v c (sb.mono (by decide))) (leB_M F h1 h2 b)
/-- the order of tuples of times and ints -/
theorem MoE.oLtT (M : MoE X.prog X.w X.K X.mg X.base C CN) (hr : Room 8 X.A) : OpR X (compareOp .Lt) (rLtG X.K (DeM C) (DlM C)) := by
  obtain ⟨f, fd, h1, h2, F, b⟩ := M.lt
  obtain ⟨g, gd, g1, g2, G, b2⟩ := M.eq
  have he := eqB_M G g1 g2 b2
  exact op_ltG (n := 7) hr mon_DeM mon_DlM (fun A pins s σ H x y u v c sb => he A pins s σ H x y u v c (sb.mono (by decide))) (ltB_M F h1 h2 b)
end
abbrev sEa : Stmt := top 21
theorem scEa : FnScope ["first", "second"] ["first", "second"] (defScope sEa) := ⟨rfl, rfl, rfl, by decide +kernel, rfl, by decide +kernel, by decide +kernel⟩
def spEa (C : Addr) : Sp := fun vs H Q _ => ∃ (U n m : Int) (x y : V), vs = [x, y] ∧ Un U ∧ MU C U n x H ∧ MU C U m y H ∧ ∀ (v : V) (H' : Hp), Ex H H' → MU C U (min n m) v H' → Q v H'
theorem ok_earlier {f : Addr} {fd : FuncData} (F : Fun K "earlier" "earlier" sEa f fd) (M : MoE P w K mg base C CN) : FnOk P w K mg base CX0 8 f fd ["first", "second"] (spEa C) := by
  refine F.ok scEa (fun vs H Q E h => ?_) (fun cdv A outer s H vs Q E hr h => ?_)
  · obtain ⟨U, n, m, x, y, rfl, _⟩ := h
    rfl
  · obtain ⟨U, n, m, x, y, rfl, hU, hx, hy, k⟩ := h
    let X := (cxOf CX0 P w K mg base ["first", "second"] "earlier" (defScope sEa) f cdv A outer s H E).nox
    have oLe := MoE.oLe (X := X) M hr
    refine ⟨_, (pss_one (ps_ret (pe_ifExp (pt_cmpR oLe (pv 0) (pv 1) (nomark _)) (pv 0) (pv 1)))), ?_⟩
    refine ⟨_, rfl, _, rfl, le_rd hU hx hy.tu fun H1 e1 => ⟨_, rfl, ite2 (fun h1 => ?_) (fun h1 => ?_)⟩⟩
    · have h1 : n ≤ m := of_decide_eq_true h1
      refine ⟨_, rfl, k _ _ e1 ?_⟩
      rw [Int.min_eq_left h1]
      exact hx.ex e1
    · have h1 : ¬ n ≤ m := of_decide_eq_false (Bool.eq_false_iff.mpr h1)
      refine ⟨_, rfl, k _ _ e1 ?_⟩
      rw [Int.min_eq_right (by omega)]
      exact hy.ex e1
abbrev sLa : Stmt := top 22
theorem scLa : FnScope ["first", "second"] ["first", "second"] (defScope sLa) := ⟨rfl, rfl, rfl, by decide +kernel, rfl, by decide +kernel, by decide +kernel⟩
def spLa (C : Addr) : Sp := fun vs H Q _ => ∃ (U n m : Int) (x y : V), vs = [x, y] ∧ Un U ∧ MU C U n x H ∧ MU C U m y H ∧ ∀ (v : V) (H' : Hp), Ex H H' → MU C U (max n m) v H' → Q v H'
theorem ok_later {f : Addr} {fd : FuncData} (F : Fun K "later" "later" sLa f fd) (M : MoE P w K mg base C CN) : FnOk P w K mg base CX0 8 f fd ["first", "second"] (spLa C) := by
  refine F.ok scLa (fun vs H Q E h => ?_) (fun cdv A outer s H vs Q E hr h => ?_)
  · obtain ⟨U, n, m, x, y, rfl, _⟩ := h
    rfl
  · obtain ⟨U, n, m, x, y, rfl, hU, hx, hy, k⟩ := h
    let X := (cxOf CX0 P w K mg base ["first", "second"] "later" (defScope sLa) f cdv A outer s H E).nox
    have oGe := MoE.oGe (X := X) M hr
    refine ⟨_, (pss_one (ps_ret (pe_ifExp (pt_cmpR oGe (pv 0) (pv 1) (nomark _)) (pv 0) (pv 1)))), ?_⟩
    refine ⟨_, rfl, _, rfl, ge_rd hU hx hy.tu fun H1 e1 => ⟨_, rfl, ite2 (fun h1 => ?_) (fun h1 => ?_)⟩⟩
    · have h1 : m ≤ n := of_decide_eq_true h1
      refine ⟨_, rfl, k _ _ e1 ?_⟩
      rw [Int.max_eq_left h1]
      exact hx.ex e1
    · have h1 : ¬ m ≤ n := of_decide_eq_false (Bool.eq_false_iff.mpr h1)
      refine ⟨_, rfl, k _ _ e1 ?_⟩
      rw [Int.max_eq_right (by omega)]
      exact hy.ex e1
/-- a list of tuples, by their numbers -/
def RsU (C : Addr) (U : Int) (ks : List Bool) (L : List Row) (xs : List V) (H : Hp) : Prop := Al (fun r v H => TuU C U ks r v H) H L xs
theorem RsU.ex {C : Addr} {U : Int} {ks : List Bool} {L : List Row} {xs : List V} {H H' : Hp} (h : RsU C U ks L xs H) (e : Ex H H') : RsU C U ks L xs H' := h.map fun _ _ q => q.ex e
theorem RsU.st {C : Addr} {U : Int} {ks : List Bool} {L : List Row} {xs : List V} {H H' : Hp} (h : RsU C U ks L xs H) (e : St H H') : RsU C U ks L xs H' := h.map fun _ _ q => q.st e
abbrev sMg : Stmt := top 25
theorem scMg : FnScope ["first", "second", "out", "i", "j"] ["first", "second"] (defScope sMg) := ⟨rfl, rfl, rfl, by decide +kernel, rfl, by decide +kernel, by decide +kernel⟩
abbrev DomM (C : Addr) := Dom (DeM C) (DlM C) (DfM C)
def spMg {C : Addr} (O : DomM C) : Sp := fun vs H Q _ => ∃ (a b : Addr) (xs ys : List V) (L M : List O.α), vs = [.ref a, .ref b] ∧ H a = some (.lst xs) ∧ H b = some (.lst ys) ∧ Al O.P H L xs ∧ Al O.P H M ys ∧ (∀ x ∈ L, ∀ y ∈ M, O.cp x y) ∧ L.length + M.length ≤ 1000000 ∧
  ∀ (p : Addr) (zs : List V) (H' : Hp), Ex H H' → H' p = some (.lst zs) → Al O.P H' (mrgK O.key L M) zs → Q (.ref p) H'
theorem ok_merged {f : Addr} {fd : FuncData} (F : Fun K "_merged" "_merged" sMg f fd) (M : MoE P w K mg base C CN) (O : DomM C) : FnOk P w K mg base CX0 9 f fd ["first", "second"] (spMg O) := by
  have T := M.T
  refine F.ok scMg (fun vs H Q E h => ?_) (fun cdv A outer s H vs Q E hr h => ?_)
  · obtain ⟨a, b, xs, ys, L, N, rfl, _⟩ := h
    rfl
  · obtain ⟨a, b, xs, ys, L, N, rfl, ha, hb, hx, hy, hcp, hlen, k⟩ := h
    let X := (cxOf CX0 P w K mg base ["first", "second", "out", "i", "j"] "_merged" (defScope sMg) f cdv A outer s H E).nox
    have oLt := MoE.oLtT (X := X) M hr
    have lx := hx.len
    have ly := hy.len
    refine ⟨_, (pss_cons (ps_set (i := 2) scMg.nd rfl (Or.inl rfl) (pe_lst pa_nil))
 (pss_cons (ps_set (i := 3) scMg.nd rfl (Or.inl rfl) pe_int)
 (pss_cons (ps_set (i := 4) scMg.nd rfl (Or.inl rfl) pe_int)
 (pss_cons (ps_while PassesOwn.never (PW.pt (pw_and (pt_cmpR op_lt (pv 3) (pe_callB call_len rfl T.len PySem.boot_len (pa_cons (pv 0) pa_nil)) (nomark _)) (pw_and1 (pt_cmpR op_lt (pv 4) (pe_callB call_len rfl T.len PySem.boot_len (pa_cons (pv 1) pa_nil)) (nomark _))))) (pss_one (ps_if (pt_cmpR oLt (pe_ix ix_list (pv 1) (pv 4) (fun _ _ => rfl)) (pe_ix ix_list (pv 0) (pv 3) (fun _ _ => rfl)) (nomark _)) (pss_cons (ps_expr (pe_bm PySem.F.plainAttrs_list PySem.F.slot_list_append PySem.F.type_list_append mt_append (pv 2) (pa_cons (pe_ix ix_list (pv 1) (pv 4) (fun _ _ => rfl)) pa_nil)))
 (pss_one (ps_set (i := 4) scMg.nd rfl (Or.inl rfl) (pe_op op_add (pv 4) pe_int)))) (pss_cons (ps_expr (pe_bm PySem.F.plainAttrs_list PySem.F.slot_list_append PySem.F.type_list_append mt_append (pv 2) (pa_cons (pe_ix ix_list (pv 0) (pv 3) (fun _ _ => rfl)) pa_nil)))
 (pss_one (ps_set (i := 3) scMg.nd rfl (Or.inl rfl) (pe_op op_add (pv 3) pe_int)))))))
 (pss_one (ps_ret (pe_op op_cat (pe_op op_cat (pv 2) (pe_slice sl_list (pv 0) (po_some (pv 3)) po_none)) (pe_slice sl_list (pv 1) (po_some (pv 4)) po_none)))))))), ?_⟩
    refine ⟨by show 0 ≤ sizeLine; decide, fun o ho => ?_⟩
    have x0 : Ex H (upd H o (.lst [])) := Ex.new ho
    refine ⟨fun m σ H' => ∃ (i j : Nat) (D : List O.α) (zs : List V), σ = [some (.ref a), some (.ref b), some (.ref o), some (.int i), some (.int j)] ∧ Ex H H' ∧ H' o = some (.lst zs) ∧ Al O.P H' D zs ∧ D ++ mrgK O.key (L.drop i) (N.drop j) = mrgK O.key L N ∧ i ≤ L.length ∧ j ≤ N.length ∧ m = L.length + N.length - i - j ∧ D.length = i + j,
      ⟨_, 0, 0, [], [], rfl, x0, upd_same, .nil, rfl, Nat.zero_le _, Nat.zero_le _, rfl, rfl⟩, ?_⟩
    rintro m σ H1 ⟨i, j, D, zs, rfl, e1, hO, hz, hD, hi, hj, rfl, hd⟩
    have ha1 := e1 _ _ ha
    have hb1 := e1 _ _ hb
    have out : ∀ H2, Ex H1 H2 → H2 = H1 → (i = L.length ∨ j = N.length) → mrgK O.key (L.drop i) (N.drop j) = L.drop i ++ N.drop j := fun H2 _ _ q => by
      rcases q with q | q
      · rw [q, List.drop_length, nil_mrgK]
        rfl
      · rw [q, List.drop_length, mrgK_nil, List.append_nil]
    have fin : (i = L.length ∨ j = N.length) → tRet (tOp rCat (tOp rCat (tVar 2) (tSl (rSlL K) (tVar 0) (tPart (tVar 3)) tNoPart)) (tSl (rSlL K) (tVar 1) (tPart (tVar 4)) tNoPart)) { nx := fun _ H' => Q .non H', rt := Q } [some (.ref a), some (.ref b), some (.ref o), some (.int i), some (.int j)] H1 := fun q => by
      have eo := out H1 (Ex.refl _) rfl q
      refine ⟨_, rfl, _, rfl, _, rfl, _, rfl, a, xs, rfl, SqL.of ha1, fun p1 n1 => ?_⟩
      have E1 : Ex H1 (upd H1 p1 (.lst (cutV xs (some (i : Int)) none))) := Ex.new n1
      refine ⟨o, p1, _, _, rfl, rfl, E1 _ _ hO, upd_same, ?_, fun p2 n2 => ?_⟩
      · rw [hz.len, hd, cutV_from (by omega), List.length_drop]
        exact line_of (by omega)
      have E2 : Ex H1 (upd (upd H1 p1 (.lst (cutV xs (some (i : Int)) none))) p2 (.lst (zs ++ cutV xs (some (i : Int)) none))) := E1.trans (Ex.new n2)
      refine ⟨_, rfl, _, rfl, _, rfl, b, ys, rfl, SqL.of (E2 _ _ hb1), fun p3 n3 => ?_⟩
      have E3 := E2.trans (Ex.new n3 (o := .lst (cutV ys (some (j : Int)) none)))
      rw [cutV_from (by omega)] at *
      rw [cutV_from (by omega)] at *
      refine ⟨p2, p3, _, _, rfl, rfl, Ex.new n3 _ _ upd_same, upd_same, ?_, fun p4 n4 => ?_⟩
      · rw [List.length_append, List.length_drop, List.length_drop, hz.len, hd]
        exact line_of (by omega)
      · refine k p4 _ _ (e1.trans (E3.trans (Ex.new n4))) upd_same ?_
        have E4 := E3.trans (Ex.new n4 (o := .lst (zs ++ xs.drop i ++ ys.drop j)))
        rw [← hD, eo, ← List.append_assoc]
        exact ((O.ex hz E4).app ((O.ex hx (e1.trans E4)).drop i)).app ((O.ex hy (e1.trans E4)).drop j)
    refine ⟨_, rfl, _, rfl, _, _, rfl, .inl ⟨_, SqL.of ha1, rfl⟩, _, _, rfl, rfl, _, rfl, ite2 (fun h1 => ?_) (fun h1 => ?_)⟩
    · have h1 : i < L.length := by
        have := of_decide_eq_true h1
        rw [lx] at this
        omega
      refine ⟨_, rfl, _, rfl, _, _, rfl, .inl ⟨_, SqL.of hb1, rfl⟩, _, _, rfl, rfl, _, rfl, ite2 (fun h2 => ?_) (fun h2 => ?_)⟩
      · have h2 : j < N.length := by
          have := of_decide_eq_true h2
          rw [ly] at this
          omega
        refine ⟨fun σ' H' => ∃ m', m' < L.length + N.length - i - j ∧ ∃ (i j : Nat) (D : List O.α) (zs : List V), σ' = [some (.ref a), some (.ref b), some (.ref o), some (.int i), some (.int j)] ∧ Ex H H' ∧ H' o = some (.lst zs) ∧ Al O.P H' D zs ∧ D ++ mrgK O.key (L.drop i) (N.drop j) = mrgK O.key L N ∧ i ≤ L.length ∧ j ≤ N.length ∧ m' = L.length + N.length - i - j ∧ D.length = i + j, fun _ _ z => z, ?_⟩
        obtain ⟨vx, ex, px⟩ := hx.get (List.getElem?_eq_getElem h1)
        obtain ⟨vy, ey, py⟩ := hy.get (List.getElem?_eq_getElem h2)
        have dL : L.drop i = L[i] :: L.drop (i + 1) := List.drop_eq_getElem_cons h1
        have dN : N.drop j = N[j] :: N.drop (j + 1) := List.drop_eq_getElem_cons h2
        have hqr : O.cp N[j] L[i] := O.sym (hcp _ (List.getElem_mem h1) _ (List.getElem_mem h2))
        generalize L[i] = r at *
        generalize N[j] = q at *
        rw [dL, dN, mrgK_cons] at hD
        refine ⟨_, rfl, _, rfl, b, _, _, vy, rfl, rfl, SqL.of hb1, atI_nat ey, _, rfl, _, rfl, a, _, _, vx, rfl, rfl, SqL.of ha1, atI_nat ex, O.ltR hqr (O.st (.of e1) py) (O.st (.of e1) px) fun H2 e2 => ⟨_, rfl, ite2 (fun h3 => ?_) (fun h3 => ?_)⟩⟩
        · have h3 : lt (O.key q) (O.key r) = true := h3
          rw [if_pos h3] at hD
          refine ⟨_, rfl, .inl ⟨rfl, _, SqL.of (e2 _ _ hO)⟩, _, rfl, _, rfl, b, _, _, vy, rfl, rfl, SqL.of (e2 _ _ hb1), atI_nat ey, o, _, _, rfl, rfl, e2 _ _ hO, line_lt (by rw [hz.len]; omega), ?_⟩
          refine ⟨_, rfl, _, _, rfl, rfl, ?_⟩
          have es := St.lst (o := .lst (zs ++ [vy])) (e2 _ _ hO)
          refine ⟨L.length + N.length - i - (j + 1), by omega, i, j + 1, D ++ [q], zs ++ [vy], rfl, Evl.Ex.mut (e1.trans e2) ho, upd_same, (O.sts (O.ex hz e2) es).snoc (O.st es (O.st (.of (e1.trans e2)) py)), ?_, hi, by omega, rfl, by rw [List.length_append, List.length_singleton]; omega⟩
          rw [List.append_assoc, dL]
          exact hD
        · have h3 : ¬ lt (O.key q) (O.key r) = true := h3
          rw [if_neg h3] at hD
          refine ⟨_, rfl, .inl ⟨rfl, _, SqL.of (e2 _ _ hO)⟩, _, rfl, _, rfl, a, _, _, vx, rfl, rfl, SqL.of (e2 _ _ ha1), atI_nat ex, o, _, _, rfl, rfl, e2 _ _ hO, line_lt (by rw [hz.len]; omega), ?_⟩
          refine ⟨_, rfl, _, _, rfl, rfl, ?_⟩
          have es := St.lst (o := .lst (zs ++ [vx])) (e2 _ _ hO)
          refine ⟨L.length + N.length - (i + 1) - j, by omega, i + 1, j, D ++ [r], zs ++ [vx], rfl, Evl.Ex.mut (e1.trans e2) ho, upd_same, (O.sts (O.ex hz e2) es).snoc (O.st es (O.st (.of (e1.trans e2)) px)), ?_, by omega, hj, rfl, by rw [List.length_append, List.length_singleton]; omega⟩
          rw [List.append_assoc, dN]
          exact hD
      · have h2 : j = N.length := by
          have := of_decide_eq_false (Bool.eq_false_iff.mpr h2)
          rw [ly] at this
          omega
        exact fin (.inr h2)
    · have h1 : i = L.length := by
        have := of_decide_eq_false (Bool.eq_false_iff.mpr h1)
        rw [lx] at this
        omega
      exact fin (.inl h1)
abbrev sAs : Stmt := top 24
theorem scAs : FnScope ["rows", "middle", "first", "second"] ["rows"] (defScope sAs) := ⟨rfl, rfl, rfl, by decide +kernel, rfl, by decide +kernel, by decide +kernel⟩
/-- things of at most 2 ^ d, in order -/
def spAs {C : Addr} (O : DomM C) (d : Nat) : Sp := fun vs H Q _ => ∃ (a : Addr) (xs : List V) (L : List O.α), vs = [.ref a] ∧ H a = some (.lst xs) ∧ Al O.P H L xs ∧ L.Pairwise O.cp ∧ L.length ≤ 2 ^ d ∧
  ∀ (p : Addr) (zs : List V) (N : List O.α) (H' : Hp), Ex H H' → H' p = some (.lst zs) → Al O.P H' N zs → N.Perm L → SrtK O.key N → Q (.ref p) H'
theorem ok_ascending {f : Addr} {fd : FuncData} (F : Fun K "ascending" "ascending" sAs f fd) (M : MoE P w K mg base C CN) (O : DomM C) (mR : mg "ascending" = some (.ref f)) (kR : PySem.W.keepIn K (.ref f) = true) (bR : Binds K fd ["rows"] []) (OM : Ok P w K mg base CX0 9 "_merged" ["first", "second"] (spMg O)) :
    ∀ d : Nat, d ≤ 19 → FnOk P w K mg base CX0 (10 + d) f fd ["rows"] (spAs O d) := by
  have T := M.T
  obtain ⟨fMg, fdMg, GMg, mMg, kMg, bMg⟩ := OM
  intro d
  induction d with
  | zero =>
    intro _
    have GR : FnOk P w K mg base CX0 9 f fd ["rows"] (fun _ _ _ _ => False) := by
      refine F.ok scAs (fun vs H Q E h => h.elim) (fun cdv A outer s H vs Q E hr h => h.elim)
    refine F.ok scAs (fun vs H Q E h => ?_) (fun cdv A outer s H vs Q E hr h => ?_)
    · obtain ⟨a, xs, L, rfl, _⟩ := h
      rfl
    · obtain ⟨a, xs, L, rfl, ha, hx, hcp, hlen, k⟩ := h
      have lx := hx.len
      have hG := hr
      have hM := hr
      let X := (cxOf CX0 P w K mg base ["rows", "middle", "first", "second"] "ascending" (defScope sAs) f cdv A outer s H E).nox
      have oLe := MoE.oLeT (X := X) M (hr.mono (by decide))
      refine ⟨_, (pss_cons (ps_if (pt_cmpR op_lt (pe_callB call_len rfl T.len PySem.boot_len (pa_cons (pv 0) pa_nil)) pe_int (nomark _)) (pss_one (ps_ret (pv 0))) pss_nil)
 (pss_cons (ps_set (i := 1) scAs.nd rfl (Or.inl rfl) (pe_op op_fdivNW (pe_callB call_len rfl T.len PySem.boot_len (pa_cons (pv 0) pa_nil)) pe_int))
 (pss_cons (ps_set (i := 2) scAs.nd rfl (Or.inl rfl) (pe_call GR hG rfl mR kR bR .nil pass0 (pa_cons (pe_slice sl_list (pv 0) po_none (po_some (pv 1))) pa_nil)))
 (pss_cons (ps_set (i := 3) scAs.nd rfl (Or.inl rfl) (pe_call GR hG rfl mR kR bR .nil pass0 (pa_cons (pe_slice sl_list (pv 0) (po_some (pv 1)) po_none) pa_nil)))
 (pss_cons (ps_if (pt_cmpR oLe (pe_ix ix_list (pv 2) (pe_un un_neg pe_int) (fun _ _ => rfl)) (pe_ix ix_list (pv 3) pe_int (fun _ _ => rfl)) (nomark _)) (pss_one (ps_ret (pe_op op_cat (pv 2) (pv 3)))) pss_nil)
 (pss_one (ps_ret (pe_call GMg hM rfl mMg kMg bMg .nil pass0 (pa_cons (pv 2) (pa_cons (pv 3) pa_nil)))))))))), ?_⟩
      refine ⟨_, rfl, _, _, rfl, .inl ⟨_, SqL.of ha, rfl⟩, _, _, rfl, rfl, _, rfl, ?_⟩
      have h0 : (xs.length : Int) < 2 := by
        have : L.length ≤ 1 := hlen
        omega
      refine iteA (decide_eq_true h0) ⟨_, rfl, k a xs L H (Ex.refl _) ha hx (.refl _) (srtK_short (by omega))⟩
  | succ d ih =>
    intro hd
    have GR := ih (by omega)
    refine F.ok scAs (fun vs H Q E h => ?_) (fun cdv A outer s H vs Q E hr h => ?_)
    · obtain ⟨a, xs, L, rfl, _⟩ := h
      rfl
    · obtain ⟨a, xs, L, rfl, ha, hx, hcp, hlen, k⟩ := h
      have lx := hx.len
      have hG : Room (10 + d) _ := hr
      have hM : Room 9 _ := hr.mono (Nat.le_trans (by decide) (Nat.le_add_right 10 d))
      let X := (cxOf CX0 P w K mg base ["rows", "middle", "first", "second"] "ascending" (defScope sAs) f cdv A outer s H E).nox
      have oLe := MoE.oLeT (X := X) M (hM.mono (by decide))
      refine ⟨_, (pss_cons (ps_if (pt_cmpR op_lt (pe_callB call_len rfl T.len PySem.boot_len (pa_cons (pv 0) pa_nil)) pe_int (nomark _)) (pss_one (ps_ret (pv 0))) pss_nil)
 (pss_cons (ps_set (i := 1) scAs.nd rfl (Or.inl rfl) (pe_op op_fdivNW (pe_callB call_len rfl T.len PySem.boot_len (pa_cons (pv 0) pa_nil)) pe_int))
 (pss_cons (ps_set (i := 2) scAs.nd rfl (Or.inl rfl) (pe_call GR hG rfl mR kR bR .nil pass0 (pa_cons (pe_slice sl_list (pv 0) po_none (po_some (pv 1))) pa_nil)))
 (pss_cons (ps_set (i := 3) scAs.nd rfl (Or.inl rfl) (pe_call GR hG rfl mR kR bR .nil pass0 (pa_cons (pe_slice sl_list (pv 0) (po_some (pv 1)) po_none) pa_nil)))
 (pss_cons (ps_if (pt_cmpR oLe (pe_ix ix_list (pv 2) (pe_un un_neg pe_int) (fun _ _ => rfl)) (pe_ix ix_list (pv 3) pe_int (fun _ _ => rfl)) (nomark _)) (pss_one (ps_ret (pe_op op_cat (pv 2) (pv 3)))) pss_nil)
 (pss_one (ps_ret (pe_call GMg hM rfl mMg kMg bMg .nil pass0 (pa_cons (pv 2) (pa_cons (pv 3) pa_nil)))))))))), ?_⟩
      refine ⟨_, rfl, _, _, rfl, .inl ⟨_, SqL.of ha, rfl⟩, _, _, rfl, rfl, _, rfl, ite2 (fun h0 => ?_) (fun h0 => ?_)⟩
      · have h0 := of_decide_eq_true h0
        exact ⟨_, rfl, k a xs L H (Ex.refl _) ha hx (.refl _) (srtK_short (by omega))⟩
      · have h0 : ¬ (xs.length : Int) < 2 := of_decide_eq_false (Bool.eq_false_iff.mpr h0)
        have hm : ((xs.length : Int)).fdiv 2 = ((xs.length / 2 : Nat) : Int) := by
          rw [Int.fdiv_eq_ediv_of_nonneg _ (by decide)]
          omega
        refine ⟨_, rfl, _, _, rfl, .inl ⟨_, SqL.of ha, rfl⟩, _, _, rfl, rfl, ⟨by decide, by decide⟩, ?_⟩
        generalize hmm : xs.length / 2 = m at hm
        have e2 : 2 ^ (d + 1) = 2 ^ d + 2 ^ d := by rw [Nat.pow_succ]; omega
        have big : 2 ^ d ≤ 2 ^ 18 := Nat.pow_le_pow_right (by decide) (by omega)
        have hcp' := hcp
        rw [← List.take_append_drop m L] at hcp'
        obtain ⟨c1, c2, c3⟩ := List.pairwise_append.mp hcp'
        refine ⟨_, rfl, _, rfl, _, rfl, a, xs, rfl, SqL.of ha, fun p1 n1 => ?_⟩
        rw [hm, cutV_to (by omega)]
        have E1 : Ex H (upd H p1 (.lst (xs.take m))) := Ex.new n1
        refine ⟨p1, xs.take m, L.take m, rfl, upd_same, (O.ex hx E1).take m, c1, by rw [List.length_take]; omega, fun q1 zs1 N1 H2 E2 hq1 hN1 pe1 so1 => ?_⟩
        have ha2 := E2 _ _ (E1 _ _ ha)
        refine ⟨_, rfl, _, rfl, _, rfl, a, xs, rfl, SqL.of ha2, fun p2 n2 => ?_⟩
        rw [hm, cutV_from (by omega)]
        have E3 : Ex H2 (upd H2 p2 (.lst (xs.drop m))) := Ex.new n2
        refine ⟨p2, xs.drop m, L.drop m, rfl, upd_same, (O.ex hx (E1.trans (E2.trans E3))).drop m, c2, by rw [List.length_drop]; omega, fun q2 zs2 N2 H4 E4 hq2 hN2 pe2 so2 => ?_⟩
        have l1 := pe1.length_eq
        have l2 := pe2.length_eq
        rw [List.length_take] at l1
        rw [List.length_drop] at l2
        have pall : (N1 ++ N2).Perm L := (pe1.append pe2).trans (by rw [List.take_append_drop])
        have call : ∀ x ∈ N1, ∀ y ∈ N2, O.cp x y := fun x hx y hy => c3 x (pe1.mem_iff.mp hx) y (pe2.mem_iff.mp hy)
        have hq1' := E4 _ _ (E3 _ _ hq1)
        have hN1' := O.ex hN1 (E3.trans E4)
        have E14 := E1.trans (E2.trans (E3.trans E4))
        rcases List.eq_nil_or_concat N1 with rfl | ⟨N0, l, rfl⟩
        · simp at l1
          omega
        rw [List.concat_eq_append] at *
        obtain ⟨ws, w, rfl, hw1, hw2⟩ := hN1'.last
        cases hN2 with
        | nil => simp at l2; omega
        | @cons r v N2 vs2 hr2 ht2 =>
          have hlr : O.cp l r := call l (List.mem_append_right _ (List.mem_singleton.mpr rfl)) r List.mem_cons_self
          refine ⟨_, rfl, _, rfl, q1, _, _, _, rfl, rfl, SqL.of hq1', atI_last _ _, _, rfl, q2, _, _, _, rfl, rfl, SqL.of hq2, at0, O.leR hlr hw2 hr2 fun H5 E5 => ⟨_, rfl, ite2 (fun h1 => ?_) (fun h1 => ?_)⟩⟩
          · have h1 : le (O.key l) (O.key r) := not_lt.mp h1
            refine ⟨_, rfl, _, rfl, q1, q2, _, _, rfl, rfl, E5 _ _ hq1', E5 _ _ hq2, ?_, fun p5 n5 => ?_⟩
            · have z1 := hN1'.len
              have z2 := ht2.len
              rw [List.length_cons, z1, z2]
              rw [List.length_cons] at l2
              exact line_of (by omega)
            · have E6 : Ex H5 (upd H5 p5 (.lst (ws ++ [w] ++ v :: vs2))) := Ex.new n5
              exact k p5 _ (N0 ++ [l] ++ r :: N2) _ (E14.trans (E5.trans E6)) upd_same ((O.ex hN1' (E5.trans E6)).app (O.ex (.cons hr2 ht2) (E5.trans E6))) pall (srtK_app so1 so2 h1)
          · refine ⟨_, rfl, _, rfl, q1, q2, _, _, N0 ++ [l], r :: N2, rfl, E5 _ _ hq1', E5 _ _ hq2, O.ex hN1' E5, O.ex (.cons hr2 ht2) E5, call, by omega, fun p zs H6 E6 hp hz => ?_⟩
            exact k p zs (mrgK O.key (N0 ++ [l]) (r :: N2)) H6 (E14.trans (E5.trans E6)) hp hz ((mrgK_perm _ _).trans pall) (mrgK_srt so1 so2)
/-- the kinds of a row: start, stop, begin, end, tone -/
abbrev ks5 : List Bool := [true, true, true, true, false]
theorem its5 {C : Addr} {U : Int} {H : Hp} {s p b e k : Int} {vs : List V} (h : ItsU C U H ks5 [s, p, b, e, k] vs) : ∃ xs xp xb xe : V, vs = [xs, xp, xb, xe, .int k] ∧ MU C U s xs H ∧ MU C U p xp H ∧ MU C U b xb H ∧ MU C U e xe H := by
  cases h with
  | cons h1 h =>
    cases h with
    | cons h2 h =>
      cases h with
      | cons h3 h =>
        cases h with
        | cons h4 h =>
          cases h with
          | cons h5 h =>
            cases h
            have h5 := h5
            unfold ItU at h5
            rw [if_neg (by decide)] at h5
            subst h5
            exact ⟨_, _, _, _, rfl, h1, h2, h3, h4⟩
theorem its5_mk {C : Addr} {U : Int} {H : Hp} {s p b e k : Int} {xs xp xb xe : V} (h1 : MU C U s xs H) (h2 : MU C U p xp H) (h3 : MU C U b xb H) (h4 : MU C U e xe H) : ItsU C U H ks5 [s, p, b, e, k] [xs, xp, xb, xe, .int k] :=
  .cons h1 (.cons h2 (.cons h3 (.cons h4 (.cons rfl .nil))))
abbrev sMv : Stmt := top 64
theorem scMv : FnScope ["row", "time", "start", "stop", "begin", "end", "tone"] ["row", "time"] (defScope sMv) := ⟨rfl, rfl, rfl, by decide +kernel, rfl, by decide +kernel, by decide +kernel⟩
/-- a row, moved by a time -/
def spMv (C : Addr) : Sp := fun vs H Q _ => ∃ (U n s p b e k : Int) (x y : V), vs = [x, y] ∧ Un U ∧ TuU C U ks5 [s, p, b, e, k] x H ∧ MU C U n y H ∧ Sm 390 (s + n) ∧ Sm 390 (p + n) ∧ Sm 390 (b + n) ∧ Sm 390 (e + n) ∧
  ∀ (v : V) (H' : Hp), Ex H H' → TuU C U ks5 [s + n, p + n, b + n, e + n, k] v H' → Q v H'
theorem ok_moved {f : Addr} {fd : FuncData} (F : Fun K "moved" "moved" sMv f fd) (M : MoE P w K mg base C CN) : FnOk P w K mg base CX0 8 f fd ["row", "time"] (spMv C) := by
  refine F.ok scMv (fun vs H Q E h => ?_) (fun cdv A outer s H vs Q E hr h => ?_)
  · obtain ⟨U, n, s, p, b, e, k, x, y, rfl, _⟩ := h
    rfl
  · obtain ⟨U, n, s0, p, b, e, k, x, y, rfl, hU, hx, hy, s1, s2, s3, s4, kk⟩ := h
    obtain ⟨q, vs, rfl, hq, hv⟩ := hx
    obtain ⟨xs, xp, xb, xe, rfl, m1, m2, m3, m4⟩ := its5 hv
    let X := (cxOf CX0 P w K mg base ["row", "time", "start", "stop", "begin", "end", "tone"] "moved" (defScope sMv) f cdv A outer s H E).nox
    have oAdd := MoE.oAdd (X := X) M hr
    refine ⟨_, (pss_cons (ps_asg (pv 0) (pg_tup rfl (pgs_cons (pg_name (i := 2) scMv.nd rfl (Or.inl rfl)) (pgs_cons (pg_name (i := 3) scMv.nd rfl (Or.inl rfl)) (pgs_cons (pg_name (i := 4) scMv.nd rfl (Or.inl rfl)) (pgs_cons (pg_name (i := 5) scMv.nd rfl (Or.inl rfl)) (pgs_cons (pg_name (i := 6) scMv.nd rfl (Or.inl rfl)) pgs_nil)))))))
 (pss_one (ps_ret (pe_tup (pa_cons (pe_op oAdd (pv 2) (pv 1)) (pa_cons (pe_op oAdd (pv 3) (pv 1)) (pa_cons (pe_op oAdd (pv 4) (pv 1)) (pa_cons (pe_op oAdd (pv 5) (pv 1)) (pa_cons (pv 6) pa_nil))))))))), ?_⟩
    refine ⟨_, rfl, q, _, rfl, SqT.of hq, rfl, _, _, rfl, _, _, rfl, _, _, rfl, _, _, rfl, _, _, rfl, rfl, ?_⟩
    refine ⟨_, rfl, _, rfl, add_rd hU m1 hy.tu s1 fun v1 H1 e1 n1 => ?_⟩
    refine ⟨_, rfl, _, rfl, add_rd hU (m2.ex e1) (hy.ex e1).tu s2 fun v2 H2 e2 n2 => ?_⟩
    have e12 := e1.trans e2
    refine ⟨_, rfl, _, rfl, add_rd hU (m3.ex e12) (hy.ex e12).tu s3 fun v3 H3 e3 n3 => ?_⟩
    have e13 := e12.trans e3
    refine ⟨_, rfl, _, rfl, add_rd hU (m4.ex e13) (hy.ex e13).tu s4 fun v4 H4 e4 n4 => ?_⟩
    have e14 := e13.trans e4
    refine ⟨_, rfl, by show 5 ≤ sizeLine; decide, fun z hz => ?_⟩
    have E : Ex H4 (upd H4 z (.tup [v1, v2, v3, v4, .int k])) := Ex.new hz
    exact kk _ _ (e14.trans E) ⟨z, _, rfl, upd_same, its5_mk (n1.ex (e2.trans (e3.trans (e4.trans E)))) (n2.ex (e3.trans (e4.trans E))) (n3.ex (e4.trans E)) (n4.ex E)⟩
/-- a time's lowest terms -/
def nt (U n : Int) : Int := n.fdiv (sg n U)
def nb (U n : Int) : Int := U.fdiv (sg n U)
theorem norm_n {U n t b : Int} (hU : 0 < U) (N : Norm n U t b) : t = nt U n ∧ b = nb U n := (norm_eq N (norm_mk (Int.ne_of_gt hU)) hU).mpr rfl
theorem MU.at_ {C : Addr} {U n : Int} {v : V} {H : Hp} (hU : Un U) (h : MU C U n v H) : ∃ a dx, v = .ref a ∧ H a = some (.ins C dx (mf (nt U n) (nb U n))) := by
  obtain ⟨⟨t, b, N, a, dx, rfl, e⟩, _⟩ := h
  obtain ⟨e1, e2⟩ := norm_n hU.pos N
  exact ⟨a, dx, rfl, by rw [← e1, ← e2]; exact e⟩
theorem nt_inj {U n m : Int} (hU : 0 < U) (h1 : nt U n = nt U m) (h2 : nb U n = nb U m) : n = m := (norm_eq (norm_mk (n := n) (Int.ne_of_gt hU)) (norm_mk (n := m) (Int.ne_of_gt hU)) hU).mp ⟨h1, h2⟩
/-- the key of a mark -/
def mkey (U b e k : Int) : List Key := [.inl k, .inl (nt U b), .inl (nb U b), .inl (nt U e), .inl (nb U e)]
theorem mkey_inj {U b e k b' e' k' : Int} (hU : 0 < U) : mkey U b e k = mkey U b' e' k' ↔ b = b' ∧ e = e' ∧ k = k' := by
  unfold mkey
  constructor
  · intro h
    injection h with h1 h
    injection h with h2 h
    injection h with h3 h
    injection h with h4 h
    injection h with h5 h
    injection h1 with h1
    injection h2 with h2
    injection h3 with h3
    injection h4 with h4
    injection h5 with h5
    exact ⟨nt_inj hU h2 h3, nt_inj hU h4 h5, h1⟩
  · rintro ⟨rfl, rfl, rfl⟩
    rfl
abbrev sMky : Stmt := top 65
theorem scMky : FnScope ["row", "_", "begin", "end", "tone"] ["row"] (defScope sMky) := ⟨rfl, rfl, rfl, by decide +kernel, rfl, by decide +kernel, by decide +kernel⟩
def spMk (C : Addr) : Sp := fun vs H Q _ => ∃ (U s p b e k : Int) (x : V), vs = [x] ∧ Un U ∧ TuU C U ks5 [s, p, b, e, k] x H ∧ ∀ (q : Addr) (H' : Hp), Ex H H' → H' q = some (.tup ((mkey U b e k).map kV)) → Q (.ref q) H'
theorem ok_mark_key {f : Addr} {fd : FuncData} (F : Fun K "mark_key" "mark_key" sMky f fd) (M : MoE P w K mg base C CN) : FnOk P w K mg base CX0 1 f fd ["row"] (spMk C) := by
  have T := M.T
  refine F.ok scMky (fun vs H Q E h => ?_) (fun cdv A outer s H vs Q E hr h => ?_)
  · obtain ⟨U, s, p, b, e, k, x, rfl, _⟩ := h
    rfl
  · obtain ⟨U, s0, p, b, e, k, x, rfl, hU, hx, kk⟩ := h
    obtain ⟨q, vs, rfl, hq, hv⟩ := hx
    obtain ⟨xs, xp, xb, xe, rfl, m1, m2, m3, m4⟩ := its5 hv
    obtain ⟨a3, d3, rfl, h3⟩ := m3.at_ hU
    obtain ⟨a4, d4, rfl, h4⟩ := m4.at_ hU
    refine ⟨_, (pss_cons (ps_asg (pv 0) (pg_tup rfl (pgs_cons (pg_name (i := 1) scMky.nd rfl (Or.inl rfl)) (pgs_cons (pg_name (i := 1) scMky.nd rfl (Or.inl rfl)) (pgs_cons (pg_name (i := 2) scMky.nd rfl (Or.inl rfl)) (pgs_cons (pg_name (i := 3) scMky.nd rfl (Or.inl rfl)) (pgs_cons (pg_name (i := 4) scMky.nd rfl (Or.inl rfl)) pgs_nil)))))))
 (pss_one (ps_ret (pe_tup (pa_cons (pv 4) (pa_cons (pe_fld (pv 2) rfl) (pa_cons (pe_fld (pv 2) rfl) (pa_cons (pe_fld (pv 3) rfl) (pa_cons (pe_fld (pv 3) rfl) pa_nil))))))))), ?_⟩
    refine ⟨_, rfl, q, _, rfl, SqT.of hq, rfl, _, _, rfl, _, _, rfl, _, _, rfl, _, _, rfl, _, _, rfl, rfl, ?_⟩
    refine ⟨_, rfl, _, rfl, a3, C, d3, _, _, rfl, h3, T.cl, T.nT, mf_top _ _, _, rfl, a3, C, d3, _, _, rfl, h3, T.cl, T.nB, mf_bottom _ _, _, rfl, a4, C, d4, _, _, rfl, h4, T.cl, T.nT, mf_top _ _, _, rfl, a4, C, d4, _, _, rfl, h4, T.cl, T.nB, mf_bottom _ _, by show 5 ≤ sizeLine; decide, fun z hz => ?_⟩
    exact kk z _ (Ex.new hz) upd_same
abbrev ks2 : List Bool := [true, true]
theorem its2 {C : Addr} {U : Int} {H : Hp} {r : Row} {vs : List V} (h : ItsU C U H ks2 r vs) : ∃ (s p : Int) (xs xp : V), r = [s, p] ∧ vs = [xs, xp] ∧ MU C U s xs H ∧ MU C U p xp H := by
  cases h with
  | cons h1 h =>
    cases h with
    | cons h2 h =>
      cases h
      exact ⟨_, _, _, _, rfl, rfl, h1, h2⟩
abbrev sUn : Stmt := top 60
theorem scUn : FnScope ["parts", "out", "start", "stop"] ["parts"] (defScope sUn) := ⟨rfl, rfl, rfl, by decide +kernel, rfl, by decide +kernel, by decide +kernel⟩
def spUn (C : Addr) : Sp := fun vs H Q _ => ∃ (U : Int) (p : Addr) (zs : List V) (N : List Row), vs = [.ref p] ∧ Un U ∧ H p = some (.lst zs) ∧ RsU C U ks2 N zs H ∧ N.length ≤ 1000000 ∧
  ∀ (o : Addr) (ys : List V) (H' : Hp), Ex H H' → H' o = some (.lst ys) → RsU C U ks2 (united N) ys H' → Q (.ref o) H'
theorem ok_united {f : Addr} {fd : FuncData} (F : Fun K "united" "united" sUn f fd) (M : MoE P w K mg base C CN) (OL : Ok P w K mg base CX0 8 "later" ["first", "second"] (spLa C)) : FnOk P w K mg base CX0 9 f fd ["parts"] (spUn C) := by
  have T := M.T
  obtain ⟨fLa, fdLa, GLa, mLa, kLa, bLa⟩ := OL
  refine F.ok scUn (fun vs H Q E h => ?_) (fun cdv A outer s H vs Q E hr h => ?_)
  · obtain ⟨U, a, xs, L, rfl, _⟩ := h
    rfl
  · obtain ⟨U, p, zs, N, rfl, hU, hp0, hz0, hlen, k⟩ := h
    have hL : Room 8 _ := hr
    let X := (cxOf CX0 P w K mg base ["parts", "out", "start", "stop"] "united" (defScope sUn) f cdv A outer s H E).nox
    have oLe := MoE.oLe (X := X) M (hr.mono (by omega))
    refine ⟨_, (pss_cons (ps_set (i := 1) scUn.nd rfl (Or.inl rfl) (pe_lst pa_nil))
 (pss_cons (ps_for PassesOwn.never rfl (pi_list (pv 0)) (pg_tup rfl (pgs_cons (pg_name (i := 2) scUn.nd rfl (Or.inl rfl)) (pgs_cons (pg_name (i := 3) scUn.nd rfl (Or.inl rfl)) pgs_nil))) (pss_one (ps_if (PW.pt (pw_and (pt_truth (pv 1) (fun _ => rfl)) (pw_and1 (pt_cmpR oLe (pv 2) (pe_ix ix_tup (pe_ix ix_list (pv 1) (pe_un un_neg pe_int) (fun _ _ => rfl)) pe_int (fun _ _ => rfl)) (nomark _))))) (pss_one (ps_asg (pe_tup (pa_cons (pe_ix ix_tup (pe_ix ix_list (pv 1) (pe_un un_neg pe_int) (fun _ _ => rfl)) pe_int (fun _ _ => rfl)) (pa_cons (pe_call GLa hL rfl mLa kLa bLa .nil pass0 (pa_cons (pe_ix ix_tup (pe_ix ix_list (pv 1) (pe_un un_neg pe_int) (fun _ _ => rfl)) pe_int (fun _ _ => rfl)) (pa_cons (pv 3) pa_nil))) pa_nil))) (pg_sub (pv 1) (pe_un un_neg pe_int) set_list))) (pss_one (ps_expr (pe_bm PySem.F.plainAttrs_list PySem.F.slot_list_append PySem.F.type_list_append mt_append (pv 1) (pa_cons (pe_tup (pa_cons (pv 2) (pa_cons (pv 3) pa_nil))) pa_nil)))))))
 (pss_one (ps_ret (pv 1))))), ?_⟩
    refine ⟨by show 0 ≤ sizeLine; decide, fun o ho => ?_⟩
    have eo : Ex H (upd H o (.lst [])) := Ex.new ho
    have lz := hz0.len
    have ho1 : (upd H o (.lst [])) o = some (.lst []) := upd_same
    have hp := eo _ _ hp0
    have hz := hz0.ex eo
    generalize upd H o (.lst []) = H1 at *
    refine ⟨_, rfl, p, rfl, ⟨_, SqL.of hp⟩, for_list (K := K) (a := p) (xs := zs) (fun i σ H' => ∃ v2 v3 ys, σ = [some (.ref p), some (.ref o), v2, v3] ∧ Ex H H' ∧ St H1 H' ∧ H' p = some (.lst zs) ∧ H' o = some (.lst ys) ∧ RsU C U ks2 (united (N.take i)) ys H')
      ⟨none, none, [], rfl, eo, .of (Ex.refl _), hp, ho1, .nil⟩ (fun i σ H' _ ⟨_, _, _, _, _, _, e, _⟩ => SqL.of e) ?_ ?_⟩
    · rintro i x σ H2 hi ⟨v2, v3, ys, rfl, e2, s2, hp2, ho2, hy⟩
      have hop : o ≠ p := fun z => by
        rw [z, hp] at ho1
        injection ho1 with ho1
        injection ho1 with ho1
        rw [ho1] at hi
        cases hi
      obtain ⟨r, hr1, hr2⟩ := hz.getV hi
      have tk : N.take (i + 1) = N.take i ++ [r] := by
        rw [List.take_succ, hr1]
        rfl
      have un : united (N.take (i + 1)) = ust (united (N.take i)) r := by
        unfold united
        rw [tk, List.foldl_append]
        rfl
      obtain ⟨q, vs, rfl, hq, hv⟩ := hr2.st s2
      obtain ⟨s0, p0, xs0, xp0, rfl, rfl, m1, m2⟩ := its2 hv
      have ly := hy.len
      have lu := united_len (N.take i)
      have lt : (N.take i).length ≤ N.length := by rw [List.length_take]; omega
      refine ⟨q, _, rfl, SqT.of hq, rfl, _, _, rfl, _, _, rfl, rfl, ?_⟩
      rw [un]
      generalize united (N.take i) = D at *
      refine ⟨_, rfl, !ys.isEmpty, .inl ⟨ys, SqL.of ho2, rfl⟩, ?_⟩
      rcases List.eq_nil_or_concat D with rfl | ⟨D, l, rfl⟩
      · cases hy
        refine iteF ?_
        refine ⟨_, rfl, .inl ⟨rfl, _, SqL.of ho2⟩, _, rfl, _, rfl, by show 2 ≤ sizeLine; decide, fun z hz => ?_⟩
        have ez : Ex H2 (upd H2 z (.tup [xs0, xp0])) := Ex.new hz
        have ho3 := ez _ _ ho2
        have sm := St.lst (o := .lst ([] ++ [V.ref z])) ho3
        refine ⟨o, [], _, rfl, rfl, ho3, line_lt (by decide), ⟨_, _, _, rfl, Evl.Ex.mut (e2.trans ez) ho, s2.trans ((St.of ez).trans sm), by rw [upd_ne (fun w => hop w.symm)]; exact ez _ _ hp2, upd_same, ?_⟩⟩
        exact .cons ⟨z, _, rfl, by rw [upd_ne (ne_of_none ho2 hz).symm]; exact upd_same, .cons ((m1.ex ez).st sm) (.cons ((m2.ex ez).st sm) .nil)⟩ .nil
      · rw [List.concat_eq_append] at *
        obtain ⟨ws, w, rfl, hw1, hw2⟩ := hy.last
        have ne : (!(ws ++ [w]).isEmpty) = true := by cases ws <;> rfl
        refine iteA ne ?_
        obtain ⟨ql, vl, rfl, hql, hvl⟩ := id hw2
        obtain ⟨sl, pl, xsl, xpl, rfl, rfl, l1, l2⟩ := its2 hvl
        have lw := hw1.len
        rw [List.length_append, List.length_append, List.length_singleton, List.length_singleton] at ly
        rw [List.length_append, List.length_singleton] at lu
        refine ⟨_, rfl, _, rfl, _, rfl, o, _, _, _, rfl, rfl, SqL.of ho2, atI_last _ _, ql, _, _, _, rfl, rfl, SqT.of hql, at1, le_rd hU m1 l2.tu fun H3 e3 => ⟨_, rfl, ?_⟩⟩
        rw [ust_snoc]
        have ho3 := e3 _ _ ho2
        refine ite2 (fun h1 => ?_) (fun h1 => ?_)
        · have h1 : s0 ≤ pl := of_decide_eq_true h1
          rw [if_pos (show r0 [s0, p0] ≤ r1 [sl, pl] from h1)]
          refine ⟨_, rfl, _, rfl, o, _, _, _, rfl, rfl, SqL.of ho3, atI_last _ _, ql, _, _, _, rfl, rfl, SqT.of (e3 _ _ hql), at0, ?_⟩
          refine ⟨_, rfl, _, rfl, o, _, _, _, rfl, rfl, SqL.of ho3, atI_last _ _, ql, _, _, _, rfl, rfl, SqT.of (e3 _ _ hql), at1, _, rfl, U, _, _, _, _, rfl, hU, l2.ex e3, m2.ex e3, fun v4 H4 e4 m4 => ?_⟩
          refine ⟨by show 2 ≤ sizeLine; decide, fun z hz => ?_⟩
          have ez : Ex H4 (upd H4 z (.tup [xsl, v4])) := Ex.new hz
          have ho4 := e4 _ _ ho3
          have ho5 := ez _ _ ho4
          have e34 := e3.trans (e4.trans ez)
          have sm := St.lst (o := .lst (ws ++ [V.ref z])) ho5
          have E : St H2 (upd (upd H4 z (.tup [xsl, v4])) o (.lst (ws ++ [V.ref z]))) := (St.of e34).trans sm
          refine ⟨_, rfl, _, rfl, o, _, _, ws.length, rfl, rfl, ho5, by rw [List.length_append]; exact ixN_last, ?_⟩
          rw [show (ws ++ [V.ref ql]).set ws.length (V.ref z) = ws ++ [V.ref z] by simp]
          refine ⟨_, _, _, rfl, Evl.Ex.mut (e2.trans e34) ho, s2.trans E, by rw [upd_ne (fun w => hop w.symm)]; exact e34 _ _ hp2, upd_same, ?_⟩
          exact (RsU.st (ks := ks2) hw1 E).snoc ⟨z, _, rfl, by rw [upd_ne (ne_of_none ho4 hz).symm]; exact upd_same, .cons (l1.st E) (.cons ((m4.ex ez).st sm) .nil)⟩
        · have h1 : ¬ s0 ≤ pl := of_decide_eq_false (Bool.eq_false_iff.mpr h1)
          rw [if_neg (show ¬ r0 [s0, p0] ≤ r1 [sl, pl] from h1)]
          refine ⟨_, rfl, .inl ⟨rfl, _, SqL.of ho3⟩, _, rfl, _, rfl, by show 2 ≤ sizeLine; decide, fun z hz => ?_⟩
          have ez : Ex H3 (upd H3 z (.tup [xs0, xp0])) := Ex.new hz
          have ho4 := ez _ _ ho3
          have sm := St.lst (o := .lst (ws ++ [V.ref ql] ++ [V.ref z])) ho4
          have E : St H2 (upd (upd H3 z (.tup [xs0, xp0])) o (.lst (ws ++ [V.ref ql] ++ [V.ref z]))) := (St.of (e3.trans ez)).trans sm
          refine ⟨o, _, _, rfl, rfl, ho4, line_lt (by rw [List.length_append, List.length_singleton]; omega), ⟨_, _, _, rfl, Evl.Ex.mut (e2.trans (e3.trans ez)) ho, s2.trans E, by rw [upd_ne (fun w => hop w.symm)]; exact ez _ _ (e3 _ _ hp2), upd_same, ?_⟩⟩
          exact (hy.st E).snoc ⟨z, _, rfl, by rw [upd_ne (ne_of_none ho3 hz).symm]; exact upd_same, .cons (m1.st E) (.cons (m2.st E) .nil)⟩
    · rintro σ H2 ⟨v2, v3, ys, rfl, e2, s2, hp2, ho2, hy⟩
      rw [lz, List.take_length] at hy
      exact ⟨_, rfl, k o ys H2 e2 ho2 hy⟩
theorem row5 {C : Addr} {U : Int} {r : Row} {v : V} {H : Hp} (h : TuU C U ks5 r v H) : ∃ s p b e k : Int, r = [s, p, b, e, k] ∧ ∃ (q : Addr) (xs xp xb xe : V), v = .ref q ∧ H q = some (.tup [xs, xp, xb, xe, .int k]) ∧ MU C U s xs H ∧ MU C U p xp H ∧ MU C U b xb H ∧ MU C U e xe H := by
  obtain ⟨q, vs, rfl, e, h⟩ := h
  cases h with
  | cons h1 h =>
    cases h with
    | cons h2 h =>
      cases h with
      | cons h3 h =>
        cases h with
        | cons h4 h =>
          cases h with
          | cons h5 h =>
            cases h
            have h5 := h5
            unfold ItU at h5
            rw [if_neg (by decide)] at h5
            subst h5
            exact ⟨_, _, _, _, _, rfl, q, _, _, _, _, rfl, e, h1, h2, h3, h4⟩
theorem its3 {C : Addr} {U : Int} {H : Hp} {b e k : Int} {vs : List V} (h : ItsU C U H [true, true, false] [b, e, k] vs) : ∃ (xb xe : V), vs = [xb, xe, .int k] ∧ MU C U b xb H ∧ MU C U e xe H := by
  cases h with
  | cons h1 h =>
    cases h with
    | cons h2 h =>
      cases h with
      | cons h3 h =>
        cases h
        have h3 := h3
        unfold ItU at h3
        rw [if_neg (by decide)] at h3
        subst h3
        exact ⟨_, _, rfl, h1, h2⟩
def rkey (U : Int) (r : Row) : List Key := mkey U (r.getD 2 0) (r.getD 3 0) (r.getD 4 0)
abbrev ks3 : List Bool := [true, true, false]
theorem longOf_one (r : Row) (h : ∃ a b c d e : Int, r = [a, b, c, d, e]) : longOf [r] = [r] := by
  obtain ⟨a, b, c, d, e, rfl⟩ := h
  have h1 : asc [se [a, b, c, d, e]] = [[a, b]] := by
    show mrg [se [a, b, c, d, e]] [] = _
    rw [mrg_nil]
    rfl
  unfold longOf
  rw [List.map_cons, List.map_nil, h1]
  rfl
theorem not_whole5 {a b c d e : V} : ¬ (HT.sIx [a, b, c, d, e].length 0 none = 0 ∧ HT.sIx [a, b, c, d, e].length [a, b, c, d, e].length (some 2) = [a, b, c, d, e].length) := fun h => by
  have h := h.2
  rw [show (2 : Int) = ((2 : Nat) : Int) from rfl, HT.sIx_nat] at h
  cases h
theorem cut5 {a b c d e : V} : cutV [a, b, c, d, e] none (some 2) = [a, b] := cutV_to (k := 2) (by show 2 ≤ 5; omega)
abbrev sRj : Stmt := top 67
theorem scRj : FnScope ["rows", "parts", "row", "out", "same", "stretches", "start", "stop"] ["rows"] (defScope sRj) := ⟨rfl, rfl, rfl, by decide +kernel, rfl, by decide +kernel, by decide +kernel⟩
def spRj (C : Addr) (d : Nat) : Sp := fun vs H Q _ => ∃ (U : Int) (a : Addr) (xs : List V) (L : List Row), vs = [.ref a] ∧ Un U ∧ H a = some (.lst xs) ∧ RsU C U ks5 L xs H ∧ L.length ≤ 2 ^ d ∧
  ∀ (p : Addr) (zs : List V) (H' : Hp), Ex H H' → H' p = some (.lst zs) → RsU C U ks5 (long (rkey U) L) zs H' → Q (.ref p) H'
theorem ok_rejoined {f : Addr} {fd : FuncData} {d : Nat} (F : Fun K "rejoined" "rejoined" sRj f fd) (M : MoE P w K mg base C CN) (hd : d ≤ 19) (OK : Ok P w K mg base CX0 1 "mark_key" ["row"] (spMk C)) (OU : Ok P w K mg base CX0 9 "united" ["parts"] (spUn C))
    (OA : ∃ f fd, (∀ O : DomM C, FnOk P w K mg base CX0 (10 + d) f fd ["rows"] (spAs O d)) ∧ mg "ascending" = some (.ref f) ∧ PySem.W.keepIn K (.ref f) = true ∧ Binds K fd ["rows"] []) : FnOk P w K mg base CX0 (d + 11) f fd ["rows"] (spRj C d) := by
  have T := M.T
  obtain ⟨fMk, fdMk, GMk, mMk, kMk, bMk⟩ := OK
  obtain ⟨fUn, fdUn, GUn, mUn, kUn, bUn⟩ := OU
  obtain ⟨fAs, fdAs, GAsA, mAs, kAs, bAs⟩ := OA
  refine F.ok scRj (fun vs H Q E h => ?_) (fun cdv A outer s H vs Q E hr h => ?_)
  · obtain ⟨U, a, xs, L, rfl, _⟩ := h
    rfl
  · obtain ⟨U, a, xs, L, rfl, hU, ha, hx, hlen, k⟩ := h
    have lx := hx.len
    have GAs := GAsA (rowD C hU ks2)
    have big : 2 ^ d ≤ 2 ^ 19 := Nat.pow_le_pow_right (by decide) hd
    have hK : Room 1 _ := hr.mono (by omega)
    have hN : Room 9 _ := hr.mono (by omega)
    have hA : Room (10 + d) _ := hr.mono (by omega)
    refine ⟨_, (pss_cons (ps_set (i := 1) scRj.nd rfl (Or.inl rfl) pe_dnewT)
 (pss_cons (ps_for PassesOwn.never rfl (pi_list (pv 0)) (pg_name (i := 2) scRj.nd rfl (Or.inl rfl)) (pss_one (ps_expr (pe_bm PySem.F.plainAttrs_list PySem.F.slot_list_append PySem.F.type_list_append mt_append (pe_dsetdT (hu_of hr) (pv 1) (pe_call GMk hK rfl mMk kMk bMk .nil pass0 (pa_cons (pv 2) pa_nil)) (pe_lst pa_nil) ⟨rfl, rfl, rfl, rfl⟩) (pa_cons (pv 2) pa_nil)))))
 (pss_cons (ps_set (i := 3) scRj.nd rfl (Or.inl rfl) (pe_lst pa_nil))
 (pss_cons (ps_lock (ps_for PassesOwn.never rfl (pi_valuesT (pv 1)) (pg_name (i := 4) scRj.nd rfl (Or.inr rfl)) (pss_one (ps_if (pt_cmpR op_eq (pe_callB call_len rfl T.len PySem.boot_len (pa_cons (pv 4) pa_nil)) pe_int (nomark _)) (pss_one (ps_expr (pe_bm PySem.F.plainAttrs_list PySem.F.slot_list_extend PySem.F.type_list_extend mt_extend (pv 3) (pa_cons (pv 4) pa_nil)))) (pss_cons (ps_set (i := 5) scRj.nd rfl (Or.inl rfl) (pe_call GUn hN rfl mUn kUn bUn .nil pass0 (pa_cons (pe_call GAs hA rfl mAs kAs bAs .nil pass0 (pa_cons (pe_lc (own := [("row", 2)]) rfl scRj.nd (pi_list (pv 4)) (blkOk_by (N := ["rows", "parts", "row", "out", "same", "stretches", "start", "stop"]) (sc := defScope sRj) (by decide +kernel)) (fun _ _ _ _ _ => pg_name (i := 2) scRj.nd rfl (Or.inl rfl)) (fun _ _ _ _ _ => pts_nil) (fun _ _ _ _ _ => (pe_slice (show SlR _ (rSlT K) from sl_tup) (pv 2) po_none (po_some pe_int)))) pa_nil)) pa_nil)))
 (pss_one (ps_expr (pe_bm PySem.F.plainAttrs_list PySem.F.slot_list_extend PySem.F.type_list_extend mt_extend (pv 3) (pa_cons (pe_lc (own := [("start", 6), ("stop", 7)]) rfl scRj.nd (pi_list (pv 5)) (blkOk_by (N := ["rows", "parts", "row", "out", "same", "stretches", "start", "stop"]) (sc := defScope sRj) (by decide +kernel)) (fun _ _ _ _ _ => (show PG _ _ (gTup K 2 _) from pg_tup rfl (pgs_cons (pg_name (i := 6) scRj.nd rfl (Or.inl rfl)) (pgs_cons (pg_name (i := 7) scRj.nd rfl (Or.inl rfl)) pgs_nil)))) (fun _ _ _ _ _ => pts_nil) (fun _ _ _ _ _ => (pe_tup (pa_cons (pv 6) (pa_cons (pv 7) (show PA _ _ (StX.tStar K _ _) from StX.pa_star (pe_slice (show SlR _ (rSlT K) from sl_tup) (pe_ix (show IxR _ (rIxL K) from ix_list) (pv 4) pe_int (fun _ _ => rfl)) (po_some pe_int) po_none) pa_nil)))))) pa_nil)))))))))
 (pss_one (ps_ret (pv 3))))))), ?_⟩
    intro D0 hD0
    have x0 : Ex H (upd H D0 (.dT [])) := Ex.new hD0
    let Gp := Grp (fun l => H l = none) HO.dT (fun r v H => TuU C U ks5 r v H) D0
    refine ⟨_, rfl, a, rfl, ⟨_, SqL.of (x0 _ _ ha)⟩, for_list (K := K) (a := a) (xs := xs) (fun i σ H' => ∃ v2, σ = [some (.ref a), some (.ref D0), v2, none, none, none, none, none] ∧ Ex H H' ∧ Gp (grp (rkey U) (L.take i)) H')
      ⟨none, rfl, x0, Grp.zero upd_same⟩ (fun i σ H' _ ⟨_, _, e, _⟩ => SqL.of (e _ _ ha)) ?_ ?_⟩
    · rintro i x σ H1 hi ⟨v2, rfl, e1, g1⟩
      obtain ⟨r, hr1, hr2⟩ := hx.getV hi
      have tk : L.take (i + 1) = L.take i ++ [r] := by
        rw [List.take_succ, hr1]
        rfl
      have lt : (L.take i).length ≤ L.length := by rw [List.length_take]; omega
      have gs := grp_sum (rkey U) (L.take i)
      obtain ⟨s0, p0, b0, e0, k0, rfl, q, xs0, xp0, xb0, xe0, rfl, hq, n1, n2, n3, n4⟩ := row5 (hr2.ex e1)
      refine ⟨_, rfl, D0, rfl, g1.isDT, _, rfl, U, s0, p0, b0, e0, k0, _, rfl, hU, hr2.ex e1, fun q2 H2 e2 hq2 => ?_⟩
      have g2 := g1.ex (fun r v H H' e h => h.st e) e2
      refine ⟨by show 0 ≤ sizeLine; decide, fun o ho => ?_⟩
      have eo : Ex H2 (upd H2 o (.lst [])) := Ex.new ho
      obtain ⟨kvs, w1, w2, w3, w4⟩ := g2.look dT_lst dT_st (fun r v H H' e h => h.st e) o ho (none_back (e1.trans e2) ho) (rkey U [s0, p0, b0, e0, k0])
      refine ⟨kvs, rkey U [s0, p0, b0, e0, k0], q2, w1, rfl, eo _ _ hq2, line_lt (by omega), fun v hv => ?_, fun hn => ?_⟩
      · obtain ⟨l, us, rfl, hl, w5, w6, w7⟩ := w3 v hv
        have hl := Nat.le_trans hl (Nat.le_of_eq gs.1)
        have ex : Ex H (upd H2 o (.lst [])) := e1.trans (e2.trans eo)
        refine ⟨.inl ⟨rfl, _, SqL.of w5⟩, _, rfl, l, us, _, rfl, rfl, w5, line_lt (by omega), ?_⟩
        refine ⟨_, rfl, Evl.Ex.mut ex w6, ?_⟩
        rw [tk, grp_snoc]
        exact w7 _ (Ex.refl _) _ _ (hr2.ex ex)
      · obtain ⟨⟨w5, w6, w7⟩, sx⟩ := w4 hn
        have ex : Ex H (upd (upd H2 o (.lst [])) D0 (.dT (putK kvs (rkey U [s0, p0, b0, e0, k0]) (.ref o)))) := Evl.Ex.mut (e1.trans (e2.trans eo)) hD0
        refine ⟨.inl ⟨rfl, _, SqL.of w5⟩, _, rfl, o, [], _, rfl, rfl, w5, line_lt (by decide), ?_⟩
        refine ⟨_, rfl, Evl.Ex.mut ex w6, ?_⟩
        rw [tk, grp_snoc]
        exact w7 _ (Ex.refl _) _ _ (hr2.ex ex)
    · rintro σ H1 ⟨v2, rfl, e1, g1⟩
      have tl : L.take xs.length = L := by rw [lx, List.take_length]
      rw [tl] at g1
      have gne := grp_ne (rkey U) L
      have gs := grp_sum (rkey U) L
      have ll := long_len (rkey U) L
      obtain ⟨Tt, t1, et⟩ := g1
      unfold long at ll
      have hlong : long (rkey U) L = (grp (rkey U) L).flatMap fun x => longOf x.2 := rfl
      rw [hlong] at k
      rw [et] at gne gs ll k
      refine ⟨by show 0 ≤ sizeLine; decide, fun o ho => ?_⟩
      have nD : o ≠ D0 := fun z => by
        rw [z, t1.at_] at ho
        cases ho
      refine ⟨D0, _, by rw [upd_ne nD.symm]; exact t1.at_, Mut.dT _, fun od => ?_⟩
      have EB : upd (upd H1 o (.lst [])) D0 (.frz od (.dT (Tt.map fun x => (x.1, V.ref x.2.1)))) = upd (upd H1 D0 (.frz od (.dT (Tt.map fun x => (x.1, V.ref x.2.1))))) o (.lst []) := upd_comm nD
      rw [EB]
      have hDT := t1.at_
      have sB : St H1 (upd H1 D0 (.frz od (.dT (Tt.map fun x => (x.1, V.ref x.2.1))))) := St.dT hDT
      have oB : upd H1 D0 (.frz od (.dT (Tt.map fun x => (x.1, V.ref x.2.1)))) o = none := by rw [upd_ne nD]; exact ho
      have dB : upd H1 D0 (.frz od (.dT (Tt.map fun x => (x.1, V.ref x.2.1)))) D0 = some (.frz od (.dT (Tt.map fun x => (x.1, V.ref x.2.1)))) := upd_same
      have lB : ∀ x ∈ Tt, ∃ vs, upd H1 D0 (.frz od (.dT (Tt.map fun x => (x.1, V.ref x.2.1)))) x.2.1 = some (.lst vs) ∧ RsU C U ks5 x.2.2 vs (upd H1 D0 (.frz od (.dT (Tt.map fun x => (x.1, V.ref x.2.1))))) := fun x hx => by
        obtain ⟨vs, q1, q2⟩ := t1.ls x hx
        exact ⟨vs, by rw [upd_ne (fun z => by rw [z, hDT] at q1; cases q1)]; exact q1, RsU.st (ks := ks5) q2 sB⟩
      have unl := fun H' (e : Ex (upd H1 D0 (.frz od (.dT (Tt.map fun x => (x.1, V.ref x.2.1))))) H') => Ex.lock e hDT
      generalize upd H1 D0 (.frz od (.dT (Tt.map fun x => (x.1, V.ref x.2.1)))) = HB at *
      have eB : Ex HB (upd HB o (.lst [])) := Ex.new oB
      refine ⟨_, rfl, D0, od, _, rfl, eB _ _ dB, for_it walk_valuesT (fun i σ H' => ∃ v4 v5 zs, σ = [some (.ref a), some (.ref D0), v2, some (.ref o), v4, v5, none, none] ∧ Ex HB H' ∧ H' o = some (.lst zs) ∧ RsU C U ks5 (((Tt.map fun x => (x.1, x.2.2)).take i).flatMap fun x => longOf x.2) zs H')
        ⟨_, _, _, rfl, eB, upd_same, by rw [List.take_zero]; exact .nil⟩ (fun i σ H' _ ⟨_, _, _, _, e, _⟩ => e _ _ dB) ?_ ?_⟩
      · rintro i x σ H2 H2' hi ⟨v4, v5, zs, rfl, e2, ho2, hz⟩ ⟨rfl, kk, hk⟩
        obtain ⟨⟨k', l, rs⟩, hT, hke⟩ : ∃ y, Tt[i]? = some y ∧ (y.1, V.ref y.2.1) = (kk, x) := by
          rw [List.getElem?_map] at hk
          cases w : Tt[i]? with
          | none => rw [w] at hk; cases hk
          | some y => rw [w] at hk; exact ⟨y, rfl, Option.some.inj hk⟩
        cases hke
        have hmem := List.mem_of_getElem? hT
        obtain ⟨us, hl, hal⟩ := lB _ hmem
        have hG : (Tt.map fun x : List Key × Addr × List Row => (x.1, x.2.2))[i]? = some (k', rs) := by rw [List.getElem?_map, hT]; rfl
        obtain ⟨r, T0, ers, erk, hrL⟩ := gne _ (List.mem_of_getElem? hG)
        have ers : rs = r :: T0 := ers
        have lrs : rs.length ≤ L.length := Nat.le_trans (sum_mem (m := fun x : List Key × List Row => x.2.length) (List.mem_of_getElem? hG)) (Nat.le_of_eq gs.1)
        have lD : zs.length + (longOf rs).length ≤ L.length := by
          have h1 := flat_take (fun x : List Key × List Row => longOf x.2) (Tt.map fun x : List Key × Addr × List Row => (x.1, x.2.2)) (i + 1)
          rw [flat_at _ hG, List.length_append, ← hz.len] at h1
          exact Nat.le_trans h1 ll
        have hl2 := e2 _ _ hl
        have hal2 := RsU.ex (ks := ks5) hal e2
        have lu := hal2.len
        have h5 : ∃ a b c d e : Int, r = [a, b, c, d, e] := by
          obtain ⟨ii, hii⟩ := List.getElem?_of_mem hrL
          obtain ⟨vr, _, hvr⟩ := hx.get hii
          obtain ⟨s', p', b0, e0, k0, rfl, _⟩ := row5 hvr
          exact ⟨_, _, _, _, _, rfl⟩
        refine ⟨_, rfl, _, _, rfl, .inl ⟨_, SqL.of hl2, rfl⟩, rfl, _, rfl, ite2 (fun h1 => ?_) (fun h1 => ?_)⟩
        · have h1 : us.length = 1 := by
            have := of_decide_eq_true h1
            injection this with this
            omega
          have er : rs = [r] := by
            rw [ers] at lu ⊢
            rw [h1, List.length_cons] at lu
            cases T0 with
            | nil => rfl
            | cons y T0 => simp at lu
          rw [er, longOf_one r h5, List.length_singleton] at lD
          rw [er] at hal2
          have ho2' := ho2
          have es : St H2' (upd H2' o (.lst (zs ++ us))) := St.lst ho2
          refine ⟨_, rfl, .inl ⟨rfl, _, SqL.of ho2⟩, _, rfl, o, l, _, _, rfl, rfl, ho2, hl2, line_of (by omega), ?_⟩
          refine ⟨_, _, zs ++ us, rfl, Evl.Ex.mut e2 oB, upd_same, ?_⟩
          rw [flat_at _ hG, show longOf rs = [r] by rw [er, longOf_one r h5]]
          exact (RsU.st (ks := ks5) hz es).app (RsU.st (ks := ks5) hal2 es)
        · obtain ⟨a0, b0, c0, d0, f0, rfl⟩ := h5
          refine ⟨_, rfl, l, rfl, ⟨_, SqL.of hl2⟩, fun D hD => lc_list (xs := us) (fun j H' => Ex H2' H' ∧ ∃ ys, H' D = some (.lst ys) ∧ RsU C U ks2 ((rs.map se).take j) ys H') ⟨Ex.new hD, [], upd_same, .nil⟩ (fun j H' _ z => SqL.of (z.1 _ _ hl2)) ?_ ?_⟩
          · rintro j x H4 hj ⟨e4, ys, hy, hry⟩
            obtain ⟨r', hr1, hr2⟩ := hal2.getV hj
            have tk : (rs.map se).take (j + 1) = (rs.map se).take j ++ [se r'] := by
              rw [List.take_succ, List.getElem?_map, hr1]
              rfl
            obtain ⟨s0, p0, b0, e0, k0, rfl, q', xs0, xp0, xb0, xe0, rfl, hq', n1, n2, n3, n4⟩ := row5 (hr2.ex e4)
            have ly := hry.len
            rw [List.length_take, List.length_map] at ly
            refine ⟨rfl, _, rfl, _, rfl, q', _, rfl, SqT.of hq', not_whole5, fun z hz6 => ?_⟩
            have ez : Ex H4 (upd H4 z (.tup (cutV [xs0, xp0, xb0, xe0, .int k0] none (some 2)))) := Ex.new hz6
            have hy6 := ez _ _ hy
            have s7 := St.lst (o := .lst (ys ++ [V.ref z])) hy6
            have S := (St.of ez).trans s7
            refine ⟨_, hy6, line_lt (by omega), Evl.Ex.mut (e4.trans ez) hD, _, upd_same, ?_⟩
            rw [tk]
            refine (RsU.st (ks := ks2) hry S).snoc ⟨z, [xs0, xp0], rfl, by rw [upd_ne (ne_of_none hy hz6).symm, upd_same, cut5], ?_⟩
            exact .cons (n1.st S) (.cons (n2.st S) .nil)
          · rintro H4 ⟨e4, ys, hy, hry⟩
            rw [lu, show rs.length = (rs.map se).length by rw [List.length_map], List.take_length] at hry
            refine ⟨D, ys, rs.map se, rfl, hy, hry, cp_row, (by show (rs.map se).length ≤ 2 ^ d; rw [List.length_map]; exact Nat.le_trans lrs hlen), fun p ws N H5 e5 hp hw pN sN => ?_⟩
            obtain rfl : N = asc (rs.map se) := asc_of pN sN
            have lN : (asc (rs.map se)).length = rs.length := by rw [(asc_perm _).length_eq, List.length_map]
            refine ⟨U, p, ws, asc (rs.map se), rfl, hU, hp, hw, by omega, fun p6 ws6 H6 e6 hp6 hw6 => ?_⟩
            have e26 := e4.trans (e5.trans e6)
            have ho6 := e26 _ _ ho2
            have hl6 := e26 _ _ hl2
            have hal6 := RsU.ex (ks := ks5) hal2 e26
            refine ⟨_, rfl, .inl ⟨rfl, _, SqL.of ho6⟩, _, rfl, p6, rfl, ⟨_, SqL.of hp6⟩, fun D2 hD2 => lc_list (xs := ws6) (fun j H' => Ex H6 H' ∧ ∃ ys, H' D2 = some (.lst ys) ∧ RsU C U ks5 (((united (asc (rs.map se))).take j).map fun q => q ++ [c0, d0, f0]) ys H') ⟨Ex.new hD2, [], upd_same, .nil⟩ (fun j H' _ z => SqL.of (z.1 _ _ hp6)) ?_ ?_⟩
            · rintro j x H7 hj ⟨e7, ys, hy, hry⟩
              obtain ⟨r', hr1, hr2⟩ := hw6.getV hj
              have tk : (united (asc (rs.map se))).take (j + 1) = (united (asc (rs.map se))).take j ++ [r'] := by
                rw [List.take_succ, hr1]
                rfl
              obtain ⟨q', vs', rfl, hq', hv'⟩ := hr2.ex e7
              obtain ⟨s0, p0, xs0, xp0, rfl, rfl, n1, n2⟩ := its2 hv'
              rw [ers] at hal6
              cases hal6 with
              | @cons _ v0 _ vs0 hv0 ht0 =>
                obtain ⟨_, _, _, _, _, heq, q3, ys1, ys2, ys3, ys4, rfl, hq3, m1, m2, m3, m4⟩ := row5 (hv0.ex e7)
                cases heq
                have ly := hry.len
                rw [List.length_map, List.length_take] at ly
                have lu2 := united_len (asc (rs.map se))
                rw [lN] at lu2
                refine ⟨q', _, rfl, SqT.of hq', rfl, _, _, rfl, _, _, rfl, rfl, rfl, ?_⟩
                refine ⟨_, rfl, _, rfl, _, rfl, l, _, _, _, rfl, rfl, SqL.of (e7 _ _ hl6), at0, _, rfl, q3, _, rfl, SqT.of hq3, not_whole2, fun z5 hz5 => ?_⟩
                rw [cut2]
                have ez5 : Ex H7 (upd H7 z5 (.tup [ys3, ys4, .int f0])) := Ex.new hz5
                refine ⟨z5, _, rfl, .inl (SqT.of upd_same), by show 5 ≤ sizeLine; decide, fun z hz6 => ?_⟩
                have ez6 : Ex (upd H7 z5 (.tup [ys3, ys4, .int f0])) (upd (upd H7 z5 (.tup [ys3, ys4, .int f0])) z (.tup [xs0, xp0, ys3, ys4, .int f0])) := Ex.new hz6
                have ez := ez5.trans ez6
                have hy6 := ez _ _ hy
                have s7 := St.lst (o := .lst (ys ++ [V.ref z])) hy6
                have S := (St.of ez).trans s7
                refine ⟨_, hy6, line_lt (by omega), Evl.Ex.mut (e7.trans ez) hD2, _, upd_same, ?_⟩
                rw [tk, List.map_append]
                refine (RsU.st (ks := ks5) hry S).snoc ⟨z, _, rfl, by rw [upd_ne (ne_of_none (ez5 _ _ hy) hz6).symm]; exact upd_same, ?_⟩
                exact .cons (n1.st S) (.cons (n2.st S) (.cons (m3.st S) (.cons (m4.st S) (.cons rfl .nil))))
            · rintro H7 ⟨e7, ys, hy, hry⟩
              rw [hw6.len, List.take_length] at hry
              have hl5 : (united (asc (rs.map se))).map (fun q => q ++ [c0, d0, f0]) = longOf rs := by
                unfold longOf
                rw [ers]
                rfl
              rw [hl5] at hry
              have ly := hry.len
              have ho7 := e7 _ _ ho6
              have s7 := St.lst (o := .lst (zs ++ ys)) ho7
              refine ⟨o, D2, _, _, rfl, rfl, ho7, hy, line_of (by omega), ?_⟩
              refine ⟨_, _, zs ++ ys, rfl, Evl.Ex.mut (e2.trans (e26.trans e7)) oB, upd_same, ?_⟩
              rw [flat_at _ hG]
              exact (RsU.st (ks := ks5) (RsU.ex (ks := ks5) hz (e26.trans e7)) s7).app (RsU.st (ks := ks5) hry s7)
      · rintro σ H2 ⟨v4, v5, zs, rfl, e2, ho2, hz⟩
        have d2 := e2 _ _ dB
        refine ⟨d2, ?_⟩
        have e3 := unl _ e2
        have s3 := St.frz (o := .dT (Tt.map fun x => (x.1, V.ref x.2.1))) d2
        rw [List.length_map, show Tt.length = (Tt.map fun x : List Key × Addr × List Row => (x.1, x.2.2)).length by rw [List.length_map], List.take_length] at hz
        exact ⟨_, rfl, k o zs _ (e1.trans e3) (by rw [upd_ne nD]; exact ho2) (RsU.st (ks := ks5) hz s3)⟩
/-- a list of such, by itself -/
def LsU (C : Addr) (U : Int) (ks : List Bool) (G : List Row) (v : V) (H : Hp) : Prop := ∃ (l : Addr) (vs : List V), v = .ref l ∧ H l = some (.lst vs) ∧ RsU C U ks G vs H
theorem LsU.ex {C : Addr} {U : Int} {ks : List Bool} {G : List Row} {v : V} {H H' : Hp} (h : LsU C U ks G v H) (e : Ex H H') : LsU C U ks G v H' := by
  obtain ⟨l, vs, rfl, h1, h2⟩ := h
  exact ⟨l, vs, rfl, e _ _ h1, h2.ex e⟩
/-- rows by their starts -/
structure GrpS (Gs : List (List Row)) (L : List Row) : Prop where
  perm : (Gs.flatMap fun G => G).Perm L
  same : ∀ G ∈ Gs, G ≠ [] ∧ ∀ r ∈ G, ∀ q ∈ G, r0 r = r0 q
  asc : Gs.Pairwise fun G G' => ∀ r ∈ G, ∀ q ∈ G', r0 r < r0 q
abbrev TG := List Key × Addr × List Row
def hd (y : TG) : Int := r0 (y.2.2.headD [])
def PpU (C : Addr) (U : Int) (y : TG) (v : V) (H : Hp) : Prop := ∃ (t : Addr) (x : V), v = .ref t ∧ H t = some (.tup [x, .ref y.2.1]) ∧ MU C U (hd y) x H
theorem PpU.st {C : Addr} {U : Int} {y : TG} {v : V} {H H' : Hp} (e : St H H') (h : PpU C U y v H) : PpU C U y v H' := by
  obtain ⟨t, x, rfl, h1, h2⟩ := h
  exact ⟨t, x, rfl, e _ _ h1 (.inr ⟨_, rfl⟩), h2.st e⟩
theorem lt_one {n m : Int} (h : n ≠ m) : lt [n] [m] = decide (n < m) := by rw [lt_cons, if_neg h]
/-- groups by their times, no two alike -/
def pairD (C : Addr) {U : Int} (hU : Un U) : DomM C where
  α := TG
  key := fun y => [hd y]
  P := PpU C U
  st := PpU.st
  cp := fun a b => hd a ≠ hd b
  sym := fun h z => h z.symm
  lt_rd := fun {a b x y H} h hx hy => by
    obtain ⟨p, u, rfl, e1, ⟨⟨t, c, N, m⟩, s⟩⟩ := hx
    obtain ⟨q, w, rfl, e2, ⟨⟨t', c', N', m'⟩, s'⟩⟩ := hy
    refine ⟨p, q, _, _, rfl, rfl, e1, e2, ?_⟩
    rw [lt_one h]
    refine .diff (.inr ⟨t, c, t', c', m, m', ?_⟩) (.inr ⟨t, c, t', c', m, m', (sz hU N s).1, (sz hU N s).2, (sz hU N' s').1, (sz hU N' s').2, (decide_eq_decide.mpr (norm_lt N N' hU.pos)).symm⟩)
    rw [norm_eq N N' hU.pos]
    exact ⟨fun z => (nomatch z), fun z => absurd z h⟩
  le_rd := fun {a b x y H} h hx hy => by
    obtain ⟨p, u, rfl, e1, ⟨⟨t, c, N, m⟩, s⟩⟩ := hx
    obtain ⟨q, w, rfl, e2, ⟨⟨t', c', N', m'⟩, s'⟩⟩ := hy
    refine ⟨p, q, _, _, rfl, rfl, e1, e2, ?_⟩
    rw [lt_one fun z => h z.symm]
    refine .diff (.inr ⟨t, c, t', c', m, m', ?_⟩) (.inr ⟨t, c, t', c', m, m', (sz hU N s).1, (sz hU N s).2, (sz hU N' s').1, (sz hU N' s').2, ?_⟩)
    · rw [norm_eq N N' hU.pos]
      exact ⟨fun z => (nomatch z), fun z => absurd z h⟩
    · have := norm_lt N' N hU.pos
      rw [Bool.eq_iff_iff]
      simp only [Bool.not_eq_true', decide_eq_true_eq, decide_eq_false_iff_not]
      omega
theorem row_head {C : Addr} {U : Int} {ks : List Bool} {r : Row} {v : V} {H : Hp} (h : TuU C U (true :: ks) r v H) : ∃ (p : Addr) (x : V) (vs : List V) (n : Int) (ns : List Int), v = .ref p ∧ H p = some (.tup (x :: vs)) ∧ r = n :: ns ∧ MU C U n x H ∧ ItsU C U H ks ns vs := by
  obtain ⟨p, vs, rfl, e, h⟩ := h
  cases h with
  | cons h t => exact ⟨p, _, _, _, _, rfl, e, rfl, h, t⟩
theorem sm1024 : Sm 1900 1024 := by
  exact Sm.mono (k := 11) (by unfold Sm; decide) (by decide)
/-- further names -/
structure Tx2 (K : PySem.W.Frag) (mg : Str → Option Value) (tb : Tok) : Prop where
  srt : mg "sorted" = none
  any : mg "any" = none
  enum : mg "enumerate" = none
  bx : mg "BOXES_IN_A_ROUND" = some (.int 1024 tb)
def gk (U : Int) (r : Row) : List Key := [.inl (nt U (r0 r)), .inl (nb U (r0 r))]
theorem gk_inj {U : Int} (hU : 0 < U) {r q : Row} : gk U r = gk U q ↔ r0 r = r0 q := by
  unfold gk
  constructor
  · intro h
    injection h with h1 h
    injection h with h2 h
    injection h1 with h1
    injection h2 with h2
    exact nt_inj hU h1 h2
  · intro h
    rw [h]
def bx (U : Int) (y : TG) : Int := (hd y * 1024).fdiv U
def bk (U : Int) (y : TG) : Key := .inl (bx U y)
theorem srtK_more {α : Type} {key : α → Row} {B : α → Int} (hB : ∀ x y, B x < B y → le (key x) (key y)) {T D N : List α} {bs : List Int} {b : Int} (hb : ∀ c ∈ bs, c < b) (pD : D.Perm (bs.flatMap fun c => T.filter fun r => B r = c)) (pN : N.Perm (T.filter fun r => B r = b)) (sD : SrtK key D) (sN : SrtK key N) : SrtK key (D ++ N) := by
  refine List.pairwise_append.mpr ⟨sD, sN, fun r hr q hq => ?_⟩
  obtain ⟨c, hc, hr⟩ := List.mem_flatMap.mp (pD.mem_iff.mp hr)
  have h1 := of_decide_eq_true (List.mem_filter.mp hr).2
  have h2 := of_decide_eq_true (List.mem_filter.mp (pN.mem_iff.mp hq)).2
  refine hB r q ?_
  rw [h1, h2]
  exact hb c hc
theorem le_bx {U : Int} (hU : 0 < U) (x y : TG) (h : bx U x < bx U y) : le [hd x] [hd y] := by
  have := box_lt hU h
  unfold le
  rw [lt_one (by omega)]
  exact decide_eq_false (by omega)
theorem flatMap_cong {α β : Type} {f g : α → List β} : ∀ {l : List α}, (∀ x ∈ l, f x = g x) → l.flatMap f = l.flatMap g
  | [], _ => rfl
  | x :: l, h => by rw [List.flatMap_cons, List.flatMap_cons, h x List.mem_cons_self, flatMap_cong fun y hy => h y (List.mem_cons_of_mem _ hy)]
abbrev sGd : Stmt := top 27
theorem scGd : FnScope ["rows", "groups", "row", "boxes", "group", "time", "out", "box", "key", "_"] ["rows"] (defScope sGd) := ⟨rfl, rfl, rfl, by decide +kernel, rfl, by decide +kernel, by decide +kernel⟩
def spGd (C : Addr) (d : Nat) : Sp := fun vs H Q _ => ∃ (U : Int) (ks : List Bool) (a : Addr) (xs : List V) (L : List Row), vs = [.ref a] ∧ Un U ∧ H a = some (.lst xs) ∧ RsU C U (true :: ks) L xs H ∧ L.length ≤ 2 ^ d ∧
  ∀ (p : Addr) (zs : List V) (Gs : List (List Row)) (H' : Hp), Ex H H' → H' p = some (.lst zs) → Al (LsU C U (true :: ks)) H' Gs zs → GrpS Gs L → Q (.ref p) H'
abbrev OkAs (P : Program) (w : World) (K : PySem.W.Frag) (mg : Str → Option Value) (base : Heap) (C : Addr) (d : Nat) : Prop := ∃ f fd, (∀ O : DomM C, FnOk P w K mg base CX0 (10 + d) f fd ["rows"] (spAs O d)) ∧ mg "ascending" = some (.ref f) ∧ PySem.W.keepIn K (.ref f) = true ∧ Binds K fd ["rows"] []
theorem ok_grouped {f : Addr} {fd : FuncData} {tb : Tok} {d : Nat} (F : Fun K "grouped" "grouped" sGd f fd) (M : MoE P w K mg base C CN) (TX : Tx2 K mg tb) (hd9 : d ≤ 19) (OA : OkAs P w K mg base C d) : FnOk P w K mg base CX0 (d + 11) f fd ["rows"] (spGd C d) := by
  have T := M.T
  obtain ⟨fAs, fdAs, GAsA, mAs, kAs, bAs⟩ := OA
  refine F.ok scGd (fun vs H Q E h => ?_) (fun cdv A outer s H vs Q E hr h => ?_)
  · obtain ⟨U, ks, a, xs, L, rfl, _⟩ := h
    rfl
  · obtain ⟨U, ks, a, xs, L, rfl, hU, ha, hx, hlen, k⟩ := h
    have lx := hx.len
    have GAs := GAsA (pairD C hU)
    have hA : Room (10 + d) _ := hr.mono (by omega)
    have big : 2 ^ d ≤ 2 ^ 19 := Nat.pow_le_pow_right (by decide) hd9
    refine ⟨_, (pss_cons (ps_set (i := 1) scGd.nd rfl (Or.inl rfl) pe_dnewT)
 (pss_cons (ps_for PassesOwn.never rfl (pi_list (pv 0)) (pg_name (i := 2) scGd.nd rfl (Or.inl rfl)) (pss_one (ps_expr (pe_bm PySem.F.plainAttrs_list PySem.F.slot_list_append PySem.F.type_list_append mt_append (pe_dsetdT (hu_of hr) (pv 1) (pe_tup (pa_cons (pe_fld (pe_ix ix_tup (pv 2) pe_int (fun _ _ => rfl)) rfl) (pa_cons (pe_fld (pe_ix ix_tup (pv 2) pe_int (fun _ _ => rfl)) rfl) pa_nil))) (pe_lst pa_nil) ⟨rfl, rfl, rfl, rfl⟩) (pa_cons (pv 2) pa_nil)))))
 (pss_cons (ps_set (i := 3) scGd.nd rfl (Or.inl rfl) pe_dnewK)
 (pss_cons (ps_lock (ps_for PassesOwn.never rfl (pi_valuesT (pv 1)) (pg_name (i := 4) scGd.nd rfl (Or.inl rfl)) (pss_cons (ps_set (i := 5) scGd.nd rfl (Or.inl rfl) (pe_ix ix_tup (pe_ix ix_list (pv 4) pe_int (fun _ _ => rfl)) pe_int (fun _ _ => rfl)))
 (pss_one (ps_expr (pe_bm PySem.F.plainAttrs_list PySem.F.slot_list_append PySem.F.type_list_append mt_append (pe_dsetd (pv 3) (pe_op op_fdivNW (pe_op op_mulW (pe_fld (pv 5) rfl) (pe_glob (v := .int 1024) rfl TX.bx ⟨_, rfl⟩)) (pe_fld (pv 5) rfl)) (pe_lst pa_nil) ⟨rfl, rfl, rfl, rfl⟩) (pa_cons (pe_tup (pa_cons (pv 5) (pa_cons (pv 4) pa_nil))) pa_nil)))))))
 (pss_cons (ps_set (i := 6) scGd.nd rfl (Or.inl rfl) (pe_lst pa_nil))
 (pss_cons (ps_for PassesOwn.never rfl (pi_list (pe_callB (r := rSortedI K) cr_sortedI rfl TX.srt PyProof.Rows.boot_sorted (pa_cons (pe_lock (pe_lc (own := [("key", 8)]) rfl scGd.nd (pi_keys (pv 3)) (blkOk_by (N := ["rows", "groups", "row", "boxes", "group", "time", "out", "box", "key", "_"]) (sc := defScope sGd) (by decide +kernel)) (fun _ _ _ _ _ => pg_name (i := 8) scGd.nd rfl (Or.inl rfl)) (fun _ _ _ _ _ => pts_nil) (fun _ _ _ _ _ => (pe_callTy call_int1 rfl T.int PyProof.Rows.boot_int (pa_cons (pv 8) pa_nil))))) pa_nil))) (pg_name (i := 7) scGd.nd rfl (Or.inl rfl)) (pss_one (ps_expr (pe_bm PySem.F.plainAttrs_list PySem.F.slot_list_extend PySem.F.type_list_extend mt_extend (pv 6) (pa_cons (pe_lc (own := [("_", 9), ("group", 4)]) rfl scGd.nd (pi_list (pe_call GAs hA rfl mAs kAs bAs .nil pass0 (pa_cons (pe_dget (hu_of hr) (pv 3) (pv 7) (fun _ _ => rfl)) pa_nil))) (blkOk_by (N := ["rows", "groups", "row", "boxes", "group", "time", "out", "box", "key", "_"]) (sc := defScope sGd) (by decide +kernel)) (fun _ _ _ _ _ => (show PG _ _ (gTup K 2 _) from pg_tup rfl (pgs_cons (pg_name (i := 9) scGd.nd rfl (Or.inl rfl)) (pgs_cons (pg_name (i := 4) scGd.nd rfl (Or.inl rfl)) pgs_nil)))) (fun _ _ _ _ _ => pts_nil) (fun _ _ _ _ _ => (pv 4))) pa_nil)))))
 (pss_one (ps_ret (pv 6))))))))), ?_⟩
    intro D0 hD0
    have x0 : Ex H (upd H D0 (.dT [])) := Ex.new hD0
    let Gp := Grp (fun l => H l = none) HO.dT (fun r v H => TuU C U (true :: ks) r v H) D0
    refine ⟨_, rfl, a, rfl, ⟨_, SqL.of (x0 _ _ ha)⟩, for_list (K := K) (a := a) (xs := xs) (fun i σ H' => ∃ v2, σ = [some (.ref a), some (.ref D0), v2, none, none, none, none, none, none, none] ∧ Ex H H' ∧ Gp (grp (gk U) (L.take i)) H')
      ⟨none, rfl, x0, Grp.zero upd_same⟩ (fun i σ H' _ ⟨_, _, e, _⟩ => SqL.of (e _ _ ha)) ?_ ?_⟩
    · rintro i x σ H1 hi ⟨v2, rfl, e1, g1⟩
      obtain ⟨r, hr1, hr2⟩ := hx.getV hi
      have tk : L.take (i + 1) = L.take i ++ [r] := by
        rw [List.take_succ, hr1]
        rfl
      have lt : (L.take i).length ≤ L.length := by rw [List.length_take]; omega
      have gs := grp_sum (gk U) (L.take i)
      obtain ⟨p, y, vs, n, ns, rfl, hp, rfl, hy, hv⟩ := row_head (hr2.ex e1)
      obtain ⟨q, dx, rfl, mq⟩ := hy.at_ hU
      refine ⟨_, rfl, D0, rfl, g1.isDT, _, rfl, p, _, _, _, rfl, rfl, SqT.of hp, at0, q, C, dx, _, _, rfl, mq, T.cl, T.nT, mf_top _ _, _, rfl, p, _, _, _, rfl, rfl, SqT.of hp, at0, q, C, dx, _, _, rfl, mq, T.cl, T.nB, mf_bottom _ _, by show 2 ≤ sizeLine; decide, fun q2 hq2 => ?_⟩
      have e2 : Ex H1 (upd H1 q2 (.tup [.int (nt U n), .int (nb U n)])) := Ex.new hq2
      have g2 := g1.ex (fun r v H H' e h => h.st e) e2
      have hq3 : (upd H1 q2 (.tup [.int (nt U n), .int (nb U n)])) q2 = some (.tup ((gk U (n :: ns)).map kV)) := upd_same
      generalize upd H1 q2 (.tup [.int (nt U n), .int (nb U n)]) = H2 at *
      refine ⟨by show 0 ≤ sizeLine; decide, fun o ho => ?_⟩
      have eo : Ex H2 (upd H2 o (.lst [])) := Ex.new ho
      obtain ⟨kvs, w1, w2, w3, w4⟩ := g2.look dT_lst dT_st (fun r v H H' e h => h.st e) o ho (none_back (e1.trans e2) ho) (gk U (n :: ns))
      refine ⟨kvs, gk U (n :: ns), q2, w1, rfl, eo _ _ hq3, line_lt (by omega), fun v hv => ?_, fun hn => ?_⟩
      · obtain ⟨l, us, rfl, hl, w5, w6, w7⟩ := w3 v hv
        have hl := Nat.le_trans hl (Nat.le_of_eq gs.1)
        have ex : Ex H (upd H2 o (.lst [])) := e1.trans (e2.trans eo)
        refine ⟨.inl ⟨rfl, _, SqL.of w5⟩, _, rfl, l, us, _, rfl, rfl, w5, line_lt (by omega), ?_⟩
        refine ⟨_, rfl, Evl.Ex.mut ex w6, ?_⟩
        rw [tk, grp_snoc]
        exact w7 _ (Ex.refl _) _ _ (hr2.ex ex)
      · obtain ⟨⟨w5, w6, w7⟩, sx⟩ := w4 hn
        have ex : Ex H (upd (upd H2 o (.lst [])) D0 (.dT (putK kvs (gk U (n :: ns)) (.ref o)))) := Evl.Ex.mut (e1.trans (e2.trans eo)) hD0
        refine ⟨.inl ⟨rfl, _, SqL.of w5⟩, _, rfl, o, [], _, rfl, rfl, w5, line_lt (by decide), ?_⟩
        refine ⟨_, rfl, Evl.Ex.mut ex w6, ?_⟩
        rw [tk, grp_snoc]
        exact w7 _ (Ex.refl _) _ _ (hr2.ex ex)
    · rintro σ H1 ⟨v2, rfl, e1, g1⟩
      have tl : L.take xs.length = L := by rw [lx, List.take_length]
      rw [tl] at g1
      obtain ⟨gk1, gk2⟩ := grp_keys (gk U) L
      have gm := grp_mem (gk U) L
      have gs := grp_sum (gk U) L
      obtain ⟨Tt, t1, et⟩ := g1
      have ek : (grp (gk U) L).map (·.1) = Tt.map (·.1) := by rw [et, List.map_map]; rfl
      rw [ek] at gk1 gk2
      have gmt : ∀ y ∈ Tt, y.2.2 = L.filter fun r => gk U r = y.1 := fun y hy => gm (y.1, y.2.2) (by rw [et]; exact List.mem_map.mpr ⟨y, hy, rfl⟩)
      have gne : ∀ y ∈ Tt, y.2.2 ≠ [] := fun y hy z => by
        obtain ⟨r, hr, e⟩ := (gk2 y.1).mp (List.mem_map.mpr ⟨y, hy, rfl⟩)
        have h2 := (List.mem_filter (p := fun r => decide (gk U r = y.1))).mpr ⟨hr, decide_eq_true e⟩
        rw [← gmt y hy, z] at h2
        cases h2
      have gkr : ∀ y ∈ Tt, ∀ r ∈ y.2.2, gk U r = y.1 := fun y hy r hr => by
        rw [gmt y hy] at hr
        exact of_decide_eq_true (List.mem_filter.mp hr).2
      have gke : ∀ y ∈ Tt, ∃ r ∈ y.2.2, hd y = r0 r := fun y hy => by
        cases e : y.2.2 with
        | nil => exact absurd e (gne y hy)
        | cons r T0 => exact ⟨r, List.mem_cons_self, by unfold hd; rw [e]; rfl⟩
      have hdr : ∀ y ∈ Tt, ∀ r ∈ y.2.2, r0 r = hd y := fun y hy r hr => by
        obtain ⟨q, hq, e⟩ := gke y hy
        rw [e]
        exact (gk_inj hU.pos).mp ((gkr y hy r hr).trans (gkr y hy q hq).symm)
      have hdn : ∀ y ∈ Tt, ∀ z ∈ Tt, hd y = hd z → y.1 = z.1 := fun y hy z hz e => by
        obtain ⟨r, hr, e1⟩ := gke y hy
        obtain ⟨q, hq, e2⟩ := gke z hz
        rw [← gkr y hy r hr, ← gkr z hz q hq]
        exact (gk_inj hU.pos).mpr (by rw [← e1, ← e2, e])
      have lT : Tt.length ≤ L.length := by
        have h2 := gs.2
        rw [et, List.length_map] at h2
        exact h2
      have flat : (Tt.flatMap fun y => y.2.2).Perm L := by
        have h := perm_keys (gk U) (Tt.map (·.1)) L t1.ks fun r hr => (gk2 _).mpr ⟨r, hr, rfl⟩
        rw [List.flatMap_map] at h
        have e : (Tt.flatMap fun y => y.2.2) = Tt.flatMap fun y => L.filter fun r => gk U r = y.1 := flatMap_cong gmt
        rw [e]
        exact h
      intro D1 hD1
      have nD : D1 ≠ D0 := fun z => by
        rw [z, t1.at_] at hD1
        cases hD1
      refine ⟨D0, _, by rw [upd_ne nD.symm]; exact t1.at_, Mut.dT _, fun od => ?_⟩
      have EB : upd (upd H1 D1 (.dK [])) D0 (.frz od (.dT (Tt.map fun x => (x.1, V.ref x.2.1)))) = upd (upd H1 D0 (.frz od (.dT (Tt.map fun x => (x.1, V.ref x.2.1))))) D1 (.dK []) := upd_comm nD
      rw [EB]
      have hDT := t1.at_
      have sB : St H1 (upd H1 D0 (.frz od (.dT (Tt.map fun x => (x.1, V.ref x.2.1))))) := St.dT hDT
      have oB : upd H1 D0 (.frz od (.dT (Tt.map fun x => (x.1, V.ref x.2.1)))) D1 = none := by rw [upd_ne nD]; exact hD1
      have dB : upd H1 D0 (.frz od (.dT (Tt.map fun x => (x.1, V.ref x.2.1)))) D0 = some (.frz od (.dT (Tt.map fun x => (x.1, V.ref x.2.1)))) := upd_same
      have lB : ∀ x ∈ Tt, ∃ vs, upd H1 D0 (.frz od (.dT (Tt.map fun x => (x.1, V.ref x.2.1)))) x.2.1 = some (.lst vs) ∧ RsU C U (true :: ks) x.2.2 vs (upd H1 D0 (.frz od (.dT (Tt.map fun x => (x.1, V.ref x.2.1))))) := fun x hx => by
        obtain ⟨vs, q1, q2⟩ := t1.ls x hx
        exact ⟨vs, by rw [upd_ne (fun z => by rw [z, hDT] at q1; cases q1)]; exact q1, RsU.st (ks := true :: ks) q2 sB⟩
      have unl := fun H' (e : Ex (upd H1 D0 (.frz od (.dT (Tt.map fun x => (x.1, V.ref x.2.1))))) H') => Ex.lock e hDT
      generalize upd H1 D0 (.frz od (.dT (Tt.map fun x => (x.1, V.ref x.2.1)))) = HB at *
      have eB : Ex HB (upd HB D1 (.dK [])) := Ex.new oB
      let Gq := Grp (fun l => HB l = none) HO.dK (PpU C U) D1
      refine ⟨_, rfl, D0, od, _, rfl, eB _ _ dB, for_it walk_valuesT (fun i σ H' => ∃ v4 v5, σ = [some (.ref a), some (.ref D0), v2, some (.ref D1), v4, v5, none, none, none, none] ∧ Ex HB H' ∧ Gq (grp (bk U) (Tt.take i)) H')
        ⟨_, _, rfl, eB, Grp.zero upd_same⟩ (fun i σ H' _ ⟨_, _, _, e, _⟩ => e _ _ dB) ?_ ?_⟩
      · rintro i x σ H2 H2' hi ⟨v4, v5, rfl, e2, g2⟩ ⟨rfl, kk, hk⟩
        obtain ⟨⟨k', l, rs⟩, hT, hke⟩ : ∃ y, Tt[i]? = some y ∧ (y.1, V.ref y.2.1) = (kk, x) := by
          rw [List.getElem?_map] at hk
          cases w : Tt[i]? with
          | none => rw [w] at hk; cases hk
          | some y => rw [w] at hk; exact ⟨y, rfl, Option.some.inj hk⟩
        cases hke
        have hmem := List.mem_of_getElem? hT
        obtain ⟨us, hl, hal⟩ := lB _ hmem
        have tk : Tt.take (i + 1) = Tt.take i ++ [(k', l, rs)] := by
          rw [List.take_succ, hT]
          rfl
        have hl2 := e2 _ _ hl
        have hal2 := RsU.ex (ks := true :: ks) hal e2
        have lt : (Tt.take i).length ≤ Tt.length := by rw [List.length_take]; omega
        have gs2 := grp_sum (bk U) (Tt.take i)
        have hne : rs ≠ [] := gne _ hmem
        cases hal2 with
        | nil => exact absurd rfl hne
        | @cons r v0 rs' us' hv0 ht0 =>
          obtain ⟨p, y, vs, n, ns, rfl, hp, rfl, hy, hv⟩ := row_head hv0
          obtain ⟨⟨t, b, N, q, dx, rfl, mq⟩, sn⟩ := id hy
          have z := sz hU N sn
          refine ⟨_, rfl, l, _, _, _, rfl, rfl, SqL.of hl2, at0, p, _, _, _, rfl, rfl, SqT.of hp, at0, ?_⟩
          refine ⟨_, rfl, D1, rfl, g2.isD, _, rfl, q, C, dx, _, _, rfl, mq, T.cl, T.nT, mf_top _ _, _, _, rfl, rfl, z.1.cmul sm1024, _, rfl, q, C, dx, _, _, rfl, mq, T.cl, T.nB, mf_bottom _ _, _, _, rfl, rfl, z.2.cdiv (Int.ne_of_gt N.pos), ?_⟩
          refine ⟨by show 0 ≤ sizeLine; decide, fun o ho => ?_⟩
          have eo : Ex H2' (upd H2' o (.lst [])) := Ex.new ho
          obtain ⟨kvs, w1, w2, w3, w4⟩ := g2.look dK_lst dK_st (fun y v H H' e h => h.st e) o ho (none_back e2 ho) (bk U (k', l, (n :: ns) :: rs'))
          refine ⟨kvs, bk U (k', l, (n :: ns) :: rs'), w1, congrArg V.int (box_floor N hU.pos), line_lt (by omega), fun v hv => ?_, fun hn => ?_⟩
          · obtain ⟨l2, us2, rfl, hll, w5, w6, w7⟩ := w3 v hv
            have hll := Nat.le_trans hll (Nat.le_of_eq gs2.1)
            have ex : Ex HB (upd H2' o (.lst [])) := e2.trans eo
            refine ⟨.inl ⟨rfl, _, SqL.of w5⟩, _, rfl, _, rfl, by show 2 ≤ sizeLine; decide, fun zz hz => ?_⟩
            have ez : Ex (upd H2' o (.lst [])) (upd (upd H2' o (.lst [])) zz (.tup [.ref q, .ref l])) := Ex.new hz
            refine ⟨l2, us2, _, rfl, rfl, ez _ _ w5, line_lt (by omega), ?_⟩
            refine ⟨_, _, rfl, Evl.Ex.mut (ex.trans ez) w6, ?_⟩
            rw [tk, grp_snoc]
            exact w7 _ ez (k', l, (n :: ns) :: rs') (V.ref zz) ⟨zz, _, rfl, upd_same, hy.ex (eo.trans ez)⟩
          · obtain ⟨⟨w5, w6, w7⟩, sx⟩ := w4 hn
            have ex : Ex HB (upd (upd H2' o (.lst [])) D1 (.dK (putK kvs (bk U (k', l, (n :: ns) :: rs')) (.ref o)))) := Evl.Ex.mut (e2.trans eo) oB
            have hy3 := (hy.ex eo).st sx
            generalize (upd (upd H2' o (.lst [])) D1 (.dK (putK kvs (bk U (k', l, (n :: ns) :: rs')) (.ref o)))) = Hx at *
            refine ⟨.inl ⟨rfl, _, SqL.of w5⟩, _, rfl, _, rfl, by show 2 ≤ sizeLine; decide, fun zz hz => ?_⟩
            have ez : Ex Hx (upd Hx zz (.tup [.ref q, .ref l])) := Ex.new hz
            refine ⟨o, [], _, rfl, rfl, ez _ _ w5, line_lt (by decide), ?_⟩
            refine ⟨_, _, rfl, Evl.Ex.mut (ex.trans ez) w6, ?_⟩
            rw [tk, grp_snoc]
            exact w7 _ ez (k', l, (n :: ns) :: rs') (V.ref zz) ⟨zz, _, rfl, upd_same, hy3.ex ez⟩
      · rintro σ H2 ⟨v4, v5, rfl, e2, g2⟩
        have d2 := e2 _ _ dB
        refine ⟨d2, ?_⟩
        rw [List.length_map, List.take_length] at g2
        have e3 := unl _ e2
        have s3 := St.frz (o := .dT (Tt.map fun x => (x.1, V.ref x.2.1))) d2
        have g3 := g2.put (fun y v H H' e h => h.st e) nD (fun l h z => by rw [z, dB] at h; cases h) s3
        generalize upd H2 D0 (.dT (Tt.map fun x => (x.1, V.ref x.2.1))) = H3 at *
        obtain ⟨gq1, gq2⟩ := grp_keys (bk U) Tt
        have gqm := grp_mem (bk U) Tt
        have gqs := grp_sum (bk U) Tt
        obtain ⟨T2, t2, et2⟩ := g3
        have ek2 : (grp (bk U) Tt).map (·.1) = T2.map (·.1) := by rw [et2, List.map_map]; rfl
        rw [ek2] at gq1 gq2
        have kin : ∀ q ∈ T2.map (·.1), ∃ n : Int, q = .inl n := fun q hq => by
          obtain ⟨r, _, e⟩ := (gq2 q).mp hq
          exact ⟨_, e.symm⟩
        have lT2 : T2.length ≤ Tt.length := by
          have h2 := gqs.2
          rw [et2, List.length_map] at h2
          exact h2
        generalize hbs : (T2.map (·.1)).map kI = bs
        have lbs : bs.length = T2.length := by rw [← hbs, List.length_map, List.length_map]
        have nbs : bs.Nodup := by rw [← hbs]; exact kI_inj kin t2.ks
        have abs : ∀ r ∈ Tt, bx U r ∈ bs := fun r hr => by
          rw [← hbs]
          exact List.mem_map.mpr ⟨bk U r, (gq2 _).mpr ⟨r, hr, rfl⟩, rfl⟩
        have bin : ∀ b ∈ bs, (.inl b : Key) ∈ T2.map (·.1) := fun b hb => by
          rw [← hbs] at hb
          obtain ⟨q, hq, rfl⟩ := List.mem_map.mp hb
          obtain ⟨n, rfl⟩ := kin q hq
          exact hq
        refine ⟨by show 0 ≤ sizeLine; decide, fun o ho => ?_⟩
        have eo : Ex H3 (upd H3 o (.lst [])) := Ex.new ho
        have t3 := t2.ex (fun y v H H' e h => h.st e) eo
        have hO3 : (upd H3 o (.lst [])) o = some (.lst []) := upd_same
        generalize upd H3 o (.lst []) = H4 at *
        refine ⟨D1, _, t3.at_, Mut.dK _, fun od2 => ?_⟩
        refine ⟨_, rfl, D1, od2, rfl, .inl ⟨_, upd_same, fun D hD => lc_it walk_keys (fun i H' => Ex (upd H4 D1 (.frz od2 (.dK (T2.map fun x => (x.1, V.ref x.2.1))))) H' ∧ H' D = some (.lst ((bs.take i).map V.int))) ⟨Ex.new hD, upd_same⟩ (fun _ _ _ z => z.1 _ _ upd_same) ?_ ?_⟩⟩
        · rintro i x H5 H5' hi ⟨e5, hO5⟩ ⟨rfl, kk, v', hk, rfl⟩
          rw [List.length_map] at hi
          have hk2 : bs[i]? = some (kI kk) ∧ kV kk = V.int (kI kk) := by
            have q : (T2.map (·.1))[i]? = some kk := by
              rw [List.getElem?_map] at hk ⊢
              cases w : T2[i]? with
              | none => rw [w] at hk; cases hk
              | some y => rw [w] at hk; cases hk; rfl
            obtain ⟨n, rfl⟩ := kin kk (List.mem_of_getElem? q)
            refine ⟨?_, rfl⟩
            rw [← hbs, List.getElem?_map, q]
            rfl
          refine ⟨rfl, _, rfl, .inl ⟨kI kk, congrArg (fun z => [z]) hk2.2, _, hO5, ?_, Evl.Ex.mut e5 hD, ?_⟩⟩
          · rw [List.length_map, List.length_take]
            exact line_lt (by omega)
          · rw [upd_same, List.take_succ, hk2.1, List.map_append]
            rfl
        · rintro H5 ⟨e5, hO5⟩
          have e6 := Ex.lock e5 t3.at_
          refine ⟨e5 _ _ upd_same, ?_⟩
          have hDD : D ≠ D1 := fun z => by
            rw [z, upd_same] at hD
            cases hD
          have hO6 : (upd H5 D1 (.dK (T2.map fun x => (x.1, V.ref x.2.1)))) D = some (.lst (bs.map V.int)) := by
            rw [upd_ne hDD, hO5, List.length_map, ← lbs, List.take_length]
          generalize upd H5 D1 (.dK (T2.map fun x => (x.1, V.ref x.2.1))) = H6 at *
          refine ⟨D, bs, rfl, SqL.of hO6, fun ns p pe ris hp => ?_⟩
          have rl := rise_lt (pe.nodup_iff.mpr nbs) ris
          have hop : o ≠ p := ne_of_none (e6 _ _ hO3) hp
          have pk : ((ns.flatMap fun b => Tt.filter fun r => bx U r = b)).Perm Tt := perm_keys (bx U) ns Tt (pe.nodup_iff.mpr nbs) fun r hr => pe.mem_iff.mpr (abs r hr)
          refine ⟨p, rfl, ⟨_, SqL.of upd_same⟩, for_list (K := K) (a := p) (xs := ns.map V.int) (fun i σ H' => ∃ v7 Dl, σ = [some (.ref a), some (.ref D0), v2, some (.ref D1), v4, v5, some (.ref o), v7, none, none] ∧ Ex H3 H' ∧ H' p = some (.lst (ns.map V.int)) ∧ H' o = some (.lst (Dl.map fun y : TG => V.ref y.2.1)) ∧ Dl.Perm ((ns.take i).flatMap fun b => Tt.filter fun r => bx U r = b) ∧ SrtK (fun y => [hd y]) Dl)
            ⟨none, [], rfl, eo.trans (e6.trans (Ex.new hp)), upd_same, by rw [upd_ne hop]; exact e6 _ _ hO3, .refl _, .nil⟩ (fun i σ H' _ ⟨_, _, _, _, e, _⟩ => SqL.of e) ?_ ?_⟩
          · rintro i x σ H7 hi ⟨v7, Dl, rfl, e7, hp7, ho7, pD, sD⟩
            obtain ⟨b, hb, rfl⟩ : ∃ b, ns[i]? = some b ∧ x = V.int b := by
              rw [List.getElem?_map] at hi
              cases w : ns[i]? with
              | none => rw [w] at hi; cases hi
              | some b => rw [w] at hi; cases hi; exact ⟨b, rfl, rfl⟩
            have bk1 := bin b (pe.mem_iff.mp (List.mem_of_getElem? hb))
            have t7 := t2.ex (fun y v H H' e h => h.st e) e7
            obtain ⟨l, us, rs, hv, hl, hal, hmem⟩ := t7.val bk1
            have ers : rs = Tt.filter fun r => decide (bx U r = b) := by
              have h1 := gqm (.inl b, rs) (by rw [et2]; exact List.mem_map.mpr ⟨_, hmem, rfl⟩)
              rw [show rs = Tt.filter fun r => decide (bk U r = .inl b) from h1]
              refine List.filter_congr fun r _ => ?_
              unfold bk
              rw [decide_eq_decide]
              exact ⟨fun h => by injection h, fun h => by rw [h]⟩
            have lrs : rs.length ≤ Tt.length := by rw [ers]; exact List.length_filter_le _ _
            have lD : Dl.length + rs.length ≤ Tt.length := by
              have h1 := pD.length_eq
              have h2 := flat_take (fun b => Tt.filter fun r => decide (bx U r = b)) ns (i + 1)
              rw [pk.length_eq, flat_at _ hb, List.length_append, ← h1, ← ers] at h2
              exact h2
            have pw : rs.Pairwise fun a b => hd a ≠ hd b := by
              rw [ers]
              refine List.Pairwise.filter _ ?_
              have h0 : Tt.Pairwise fun a b => a.1 ≠ b.1 := by
                have := t1.ks
                unfold List.Nodup at this
                rw [List.pairwise_map] at this
                exact this
              exact h0.imp_of_mem fun {a b} ha hb h z => h (hdn a ha b hb z)
            have dg : DGet H7 D1 (kV (.inl b)) (some (.ref l)) := by rw [← hv]; exact DGet.k t7.at_
            refine ⟨_, rfl, .inl ⟨rfl, _, SqL.of ho7⟩, _, rfl, _, rfl, D1, _, rfl, dg, l, us, rs, rfl, hl, hal, pw, (show rs.length ≤ 2 ^ d by omega), fun p8 zs8 (N8 : List TG) H8 e8 hp8 hz8 pN sN => ?_⟩
            have hz8 : Al (PpU C U) H8 N8 zs8 := hz8
            have pN : N8.Perm rs := pN
            have sN : SrtK (fun y : TG => [hd y]) N8 := sN
            have lN := pN.length_eq
            have lz8 := hz8.len
            refine ⟨p8, rfl, ⟨_, SqL.of hp8⟩, fun D2 hD2 => lc_list (xs := zs8) (fun j H' => Ex H8 H' ∧ H' D2 = some (.lst (((N8.take j).map fun y : TG => V.ref y.2.1)))) ⟨Ex.new hD2, upd_same⟩ (fun j H' _ z => SqL.of (z.1 _ _ hp8)) ?_ ?_⟩
            · rintro j x H9 hj ⟨e9, hO9⟩
              obtain ⟨y, hy1, hy2⟩ := hz8.getV hj
              obtain ⟨tt, xx, rfl, ht, _⟩ := hy2
              refine ⟨tt, _, rfl, SqT.of (e9 _ _ ht), rfl, _, _, rfl, _, _, rfl, rfl, rfl, _, rfl, _, hO9, ?_, Evl.Ex.mut e9 hD2, ?_⟩
              · rw [List.length_map, List.length_take]
                exact line_lt (by omega)
              · rw [upd_same, List.take_succ, hy1, List.map_append]
                rfl
            · rintro H9 ⟨e9, hO9⟩
              rw [lz8, List.take_length] at hO9
              have o9 := e9 _ _ (e8 _ _ ho7)
              refine ⟨o, D2, _, _, rfl, rfl, o9, hO9, line_of (by rw [List.length_map, List.length_map]; omega), ?_⟩
              refine ⟨some (.int b), Dl ++ N8, rfl, Evl.Ex.mut (e7.trans (e8.trans e9)) ho, by rw [upd_ne (fun z => hop z.symm)]; exact e9 _ _ (e8 _ _ hp7), by rw [upd_same, List.map_append], ?_, ?_⟩
              · rw [flat_at _ hb, ← ers]
                exact pD.append pN
              · rw [ers] at pN
                exact srtK_more (le_bx hU.pos) (rise_at rl hb) pD pN sD sN
          · rintro σ H7 ⟨v7, Dl, rfl, e7, hp7, ho7, pD, sD⟩
            rw [List.length_map, List.take_length] at pD
            have pT := pD.trans pk
            have e17 := e3.trans e7
            refine ⟨_, rfl, k o _ (Dl.map fun y => y.2.2) H7 (e1.trans e17) ho7 ?_ ?_⟩
            · have mem : ∀ y ∈ Dl, y ∈ Tt := fun y hy => pT.mem_iff.mp hy
              clear pD sD pT ho7
              induction Dl with
              | nil => exact .nil
              | cons y Dl ih =>
                refine .cons ?_ (ih fun z hz => mem z (List.mem_cons_of_mem _ hz))
                obtain ⟨vs, q1, q2⟩ := t1.ls y (mem y List.mem_cons_self)
                exact ⟨y.2.1, vs, rfl, e17 _ _ q1, RsU.ex (ks := true :: ks) q2 e17⟩
            · have mem : ∀ y ∈ Dl, y ∈ Tt := fun y hy => pT.mem_iff.mp hy
              refine ⟨?_, fun G hG => ?_, ?_⟩
              · rw [List.flatMap_map]
                exact (pT.flatMap_right _).trans flat
              · obtain ⟨y, hy, rfl⟩ := List.mem_map.mp hG
                exact ⟨gne y (mem y hy), fun r hr q hq => by rw [hdr y (mem y hy) r hr, hdr y (mem y hy) q hq]⟩
              · rw [List.pairwise_map]
                have h0 : Dl.Pairwise fun a b => a.1 ≠ b.1 := by
                  have h1 : (Dl.map (·.1)).Nodup := (pT.map (·.1)).nodup_iff.mpr t1.ks
                  unfold List.Nodup at h1
                  rw [List.pairwise_map] at h1
                  exact h1
                refine (List.Pairwise.and sD h0).imp_of_mem fun {y z} hy hz ⟨h1, h2⟩ r hr q hq => ?_
                rw [hdr y (mem y hy) r hr, hdr z (mem z hz) q hq]
                have h3 : hd y ≠ hd z := fun e => h2 (hdn y (mem y hy) z (mem z hz) e)
                unfold le at h1
                rw [lt_one (fun e => h3 e.symm)] at h1
                have := of_decide_eq_false h1
                omega
abbrev sIo : Stmt := top 26
theorem scIo : FnScope ["rows", "out", "group"] ["rows"] (defScope sIo) := ⟨rfl, rfl, rfl, by decide +kernel, rfl, by decide +kernel, by decide +kernel⟩
/-- rows of at most 2 ^ d, in order -/
def spIo (C : Addr) (d : Nat) : Sp := fun vs H Q _ => ∃ (U : Int) (ks : List Bool) (a : Addr) (xs : List V) (L : List Row), vs = [.ref a] ∧ Un U ∧ H a = some (.lst xs) ∧ RsU C U (true :: ks) L xs H ∧ L.length ≤ 2 ^ d ∧
  ∀ (p : Addr) (zs : List V) (N : List Row) (H' : Hp), Ex H H' → H' p = some (.lst zs) → RsU C U (true :: ks) N zs H' → N.Perm L → Srt N → Q (.ref p) H'
theorem grpS_len {Gs : List (List Row)} {i : Nat} {G : List Row} (h : Gs[i]? = some G) : ((Gs.take i).flatMap fun G => G).length + G.length ≤ (Gs.flatMap fun G => G).length := by
  have h2 := flat_take (fun G : List Row => G) Gs (i + 1)
  rw [flat_at _ h, List.length_append] at h2
  exact h2
theorem ok_in_order {f : Addr} {fd : FuncData} {d : Nat} (F : Fun K "in_order" "in_order" sIo f fd) (M : MoE P w K mg base C CN) (hd9 : d ≤ 19) (OA : OkAs P w K mg base C d) (OG : Ok P w K mg base CX0 (d + 11) "grouped" ["rows"] (spGd C d)) : FnOk P w K mg base CX0 (d + 12) f fd ["rows"] (spIo C d) := by
  have T := M.T
  obtain ⟨fAs, fdAs, GAsA, mAs, kAs, bAs⟩ := OA
  obtain ⟨fGd, fdGd, GGd, mGd, kGd, bGd⟩ := OG
  refine F.ok scIo (fun vs H Q E h => ?_) (fun cdv A outer s H vs Q E hr h => ?_)
  · obtain ⟨U, ks, a, xs, L, rfl, _⟩ := h
    rfl
  · obtain ⟨U, ks, a, xs, L, rfl, hU, ha, hx, hlen, k⟩ := h
    have GAs := GAsA (rowD C hU (true :: ks))
    have hA : Room (10 + d) _ := hr.mono (by omega)
    have hG : Room (d + 11) _ := hr
    have big : 2 ^ d ≤ 2 ^ 19 := Nat.pow_le_pow_right (by decide) hd9
    refine ⟨_, (pss_cons (ps_set (i := 1) scIo.nd rfl (Or.inl rfl) (pe_lst pa_nil))
 (pss_cons (ps_for PassesOwn.never rfl (pi_list (pe_call GGd hG rfl mGd kGd bGd .nil pass0 (pa_cons (pv 0) pa_nil))) (pg_name (i := 2) scIo.nd rfl (Or.inl rfl)) (pss_one (ps_expr (pe_bm PySem.F.plainAttrs_list PySem.F.slot_list_extend PySem.F.type_list_extend mt_extend (pv 1) (pa_cons (pe_call GAs hA rfl mAs kAs bAs .nil pass0 (pa_cons (pv 2) pa_nil)) pa_nil)))))
 (pss_one (ps_ret (pv 1))))), ?_⟩
    refine ⟨by show 0 ≤ sizeLine; decide, fun o ho => ?_⟩
    have eo : Ex H (upd H o (.lst [])) := Ex.new ho
    refine ⟨_, rfl, U, ks, a, xs, L, rfl, hU, eo _ _ ha, hx.ex eo, hlen, fun p zs Gs H1 e1 hp hz gS => ?_⟩
    have ho1 := e1 _ _ (show (upd H o (.lst [])) o = some (.lst []) from upd_same)
    have lL := gS.perm.length_eq
    refine ⟨p, rfl, ⟨_, SqL.of hp⟩, for_list (K := K) (a := p) (xs := zs) (fun i σ H' => ∃ v2 D ys, σ = [some (.ref a), some (.ref o), v2] ∧ Ex H H' ∧ H' p = some (.lst zs) ∧ (∀ q u, q ≠ o → H1 q = some u → H' q = some u) ∧ H' o = some (.lst ys) ∧ RsU C U (true :: ks) D ys H' ∧ D.Perm ((Gs.take i).flatMap fun G => G) ∧ Srt D)
      ⟨none, [], [], rfl, eo.trans e1, hp, fun _ _ _ h => h, ho1, .nil, .refl _, .nil⟩ (fun i σ H' _ ⟨_, _, _, _, _, e, _⟩ => SqL.of e) ?_ ?_⟩
    · rintro i x σ H2 hi ⟨v2, D, ys, rfl, e2, hp2, st2, ho2, hy, pD, sD⟩
      have hop : o ≠ p := fun z => by
        rw [z, hp] at ho1
        injection ho1 with ho1
        injection ho1 with ho1
        rw [ho1] at hi
        cases hi
      obtain ⟨G, hG, l, us, rfl, hl, hal⟩ := hz.getV hi
      have hmem := List.mem_of_getElem? hG
      have hne := (gS.same G hmem).1
      have lo : l ≠ o := fun z => by
        rw [z, ho1] at hl
        injection hl with hl
        injection hl with hl
        subst hl
        cases hal
        exact hne rfl
      have sB : St H1 H2 := fun q u h z => st2 q u (fun w => by
        rw [w, ho1] at h
        cases h
        rcases z with ⟨_, _, _, z⟩ | ⟨_, z⟩ <;> cases z) h
      have hl2 := st2 l _ lo hl
      have hal2 := RsU.st (ks := true :: ks) hal sB
      have lG := grpS_len hG
      have l1 := pD.length_eq
      have lu := hal2.len
      have ly := hy.len
      refine ⟨_, rfl, .inl ⟨rfl, _, SqL.of ho2⟩, _, rfl, l, us, G, rfl, hl2, hal2, cp_row, (show G.length ≤ 2 ^ d by omega), fun p8 zs8 (N8 : List Row) H8 e8 hp8 hz8 pN sN => ?_⟩
      have hz8 : RsU C U (true :: ks) N8 zs8 H8 := hz8
      have pN : N8.Perm G := pN
      have sN : Srt N8 := sN
      have lN := pN.length_eq
      have lz8 := hz8.len
      have o8 := e8 _ _ ho2
      have es : St H8 (upd H8 o (.lst (ys ++ zs8))) := St.lst o8
      refine ⟨o, p8, _, _, rfl, rfl, o8, hp8, line_of (by omega), ?_⟩
      refine ⟨some (.ref l), D ++ N8, ys ++ zs8, rfl, (Evl.Ex.mut ((Ex.refl _).trans (e2.trans e8)) ho), by rw [upd_ne hop.symm]; exact e8 _ _ hp2, fun q u hq h => by rw [upd_ne hq]; exact e8 _ _ (st2 q u hq h), upd_same, ?_, ?_, ?_⟩
      · exact (RsU.st (ks := true :: ks) (RsU.ex (ks := true :: ks) hy e8) es).app (RsU.st (ks := true :: ks) hz8 es)
      · rw [flat_at _ hG]
        exact pD.append pN
      · refine List.pairwise_append.mpr ⟨sD, sN, fun r hr q hq => ?_⟩
        obtain ⟨G', hG', hr'⟩ := List.mem_flatMap.mp (pD.mem_iff.mp hr)
        have hq' := pN.mem_iff.mp hq
        have hlt : r0 r < r0 q := by
          have e1' := (List.take_append_drop i Gs).symm
          obtain ⟨hi', e2'⟩ := List.getElem?_eq_some_iff.mp hG
          have h3 := gS.asc
          rw [e1', List.drop_eq_getElem_cons hi', e2'] at h3
          exact (List.pairwise_append.mp h3).2.2 G' hG' G List.mem_cons_self r hr' q hq'
        have nr : r ≠ [] := fun z => by
          subst z
          obtain ⟨j, hj⟩ := List.getElem?_of_mem hr
          obtain ⟨v, _, hv⟩ := hy.get hj
          obtain ⟨_, _, _, _, _, _, _, e, _⟩ := row_head hv
          cases e
        have nq : q ≠ [] := fun z => by
          subst z
          obtain ⟨j, hj⟩ := List.getElem?_of_mem hq
          obtain ⟨v, _, hv⟩ := hz8.get hj
          obtain ⟨_, _, _, _, _, _, _, e, _⟩ := row_head hv
          cases e
        cases r with
        | nil => exact absurd rfl nr
        | cons y r =>
          cases q with
          | nil => exact absurd rfl nq
          | cons z q =>
            have hlt : y < z := hlt
            unfold le
            rw [lt_cons, if_neg (by omega)]
            exact decide_eq_false (by omega)
    · rintro σ H2 ⟨v2, D, ys, rfl, e2, hp2, st2, ho2, hy, pD, sD⟩
      have lz := hz.len
      rw [lz, List.take_length] at pD
      exact ⟨_, rfl, k o ys D H2 e2 ho2 hy (pD.trans gS.perm) sD⟩
abbrev sLo : Stmt := top 66
theorem scLo : FnScope ["rows"] ["rows"] (defScope sLo) := ⟨rfl, rfl, rfl, by decide +kernel, rfl, by decide +kernel, by decide +kernel⟩
def spLo (C : Addr) (d : Nat) : Sp := fun vs H Q _ => ∃ (U : Int) (a : Addr) (xs : List V) (L : List Row), vs = [.ref a] ∧ Un U ∧ H a = some (.lst xs) ∧ RsU C U ks5 L xs H ∧ L.length ≤ 2 ^ d ∧
  ∀ (p : Addr) (zs : List V) (N : List Row) (H' : Hp), Ex H H' → H' p = some (.lst zs) → RsU C U ks5 N zs H' → N.Perm (long (rkey U) L) → Srt N → Q (.ref p) H'
theorem ok_longest {f : Addr} {fd : FuncData} {d : Nat} (F : Fun K "longest" "longest" sLo f fd) (OR : Ok P w K mg base CX0 (d + 11) "rejoined" ["rows"] (spRj C d)) (OI : Ok P w K mg base CX0 (d + 12) "in_order" ["rows"] (spIo C d)) : FnOk P w K mg base CX0 (d + 13) f fd ["rows"] (spLo C d) := by
  obtain ⟨fRj, fdRj, GRj, mRj, kRj, bRj⟩ := OR
  obtain ⟨fIo, fdIo, GIo, mIo, kIo, bIo⟩ := OI
  refine F.ok scLo (fun vs H Q E h => ?_) (fun cdv A outer s H vs Q E hr h => ?_)
  · obtain ⟨U, a, xs, L, rfl, _⟩ := h
    rfl
  · obtain ⟨U, a, xs, L, rfl, hU, ha, hx, hlen, k⟩ := h
    have hR : Room (d + 11) _ := hr.mono (by omega)
    have hO : Room (d + 12) _ := hr
    refine ⟨_, (pss_one (ps_ret (pe_call GIo hO rfl mIo kIo bIo .nil pass0 (pa_cons (pe_call GRj hR rfl mRj kRj bRj .nil pass0 (pa_cons (pv 0) pa_nil)) pa_nil)))), ?_⟩
    refine ⟨_, rfl, U, a, xs, L, rfl, hU, ha, hx, hlen, fun p zs H1 e1 hp hz => ?_⟩
    refine ⟨U, [true, true, true, false], p, zs, _, rfl, hU, hp, hz, Nat.le_trans (long_len (rkey U) L) hlen, fun q ws N H2 e2 hq hw pN sN => ?_⟩
    exact k q ws N H2 (e1.trans e2) hq hw pN sN
abbrev sTn : Stmt := top 29
theorem scTn : FnScope ["keys", "numbers", "key", "ring", "step"] ["keys"] (defScope sTn) := ⟨rfl, rfl, rfl, by decide +kernel, rfl, by decide +kernel, by decide +kernel⟩
/-- a tuple that is a key -/
def KeyU (k : List Key) (v : V) (H : Hp) : Prop := ∃ q, v = .ref q ∧ H q = some (.tup (k.map kV))
theorem KeyU.st {k : List Key} {v : V} {H H' : Hp} (h : KeyU k v H) (e : St H H') : KeyU k v H' := let ⟨q, h1, h2⟩ := h; ⟨q, h1, e _ _ h2 (.inr ⟨_, rfl⟩)⟩
def spLt : Sp := fun vs H Q _ => ∃ (a : Addr) (xs : List V) (ks : List (List Key)), vs = [.ref a] ∧ H a = some (.lst xs) ∧ Al KeyU H ks xs ∧ ks ≠ [] ∧ ks.length ≤ 500000 ∧
  ∀ (m : Nat) (H' : Hp), Ex H H' → LTurn ks m → Q (.int (m : Nat)) H'
theorem ok_least_turn {f : Addr} {fd : FuncData} (F : Fun K "least_turn" "least_turn" sTn f fd) (T : Txt K mg C) : FnOk P w K mg base CX0 2 f fd ["keys"] spLt := by
  refine F.ok scTn (fun vs H Q E h => ?_) (fun cdv A outer s H vs Q E hr h => ?_)
  · obtain ⟨a, xs, ks, rfl, _⟩ := h
    rfl
  · obtain ⟨a, xs, ks, rfl, ha, hx, hne, hlen, k⟩ := h
    have lx := hx.len
    refine ⟨_, (pss_cons (ps_set (i := 1) scTn.nd rfl (Or.inr rfl) pe_dnewT)
 (pss_cons (ps_for PassesOwn.never rfl (pi_list (pv 0)) (pg_name (i := 2) scTn.nd rfl (Or.inl rfl)) (pss_one (ps_expr (pe_dsetdT (hu_of hr) (pv 1) (pv 2) (pe_callB call_len_dT rfl T.len PySem.boot_len (pa_cons (pv 1) pa_nil)) ⟨rfl, rfl, rfl, rfl⟩))))
 (pss_cons (ps_setLc (i := 3) (own := [("key", 2)]) rfl scTn.nd rfl rfl rfl (pi_list (pv 0)) (blkOk_by (N := ["keys", "numbers", "key", "ring", "step"]) (sc := defScope sTn) (by decide +kernel)) (fun _ _ _ _ _ => pg_name (i := 2) scTn.nd rfl (Or.inl rfl)) (fun _ _ _ _ _ => pts_nil) (fun _ _ _ _ _ => (pe_dget (hu_of hr) (pv 1) (pv 2) (fun _ _ => rfl))))
 (pss_cons (ps_for PassesOwn.never rfl (pi_range2 rfl T.range (pa_cons pe_int (pa_cons (pe_callB call_len rfl T.len PySem.boot_len (pa_cons (pv 3) pa_nil)) pa_nil))) (pg_name (i := 4) scTn.nd rfl (Or.inl rfl)) (pss_one (ps_if (PW.pt (pw_and (pt_cmpR op_eq (pe_op op_mod (pe_callB call_len rfl T.len PySem.boot_len (pa_cons (pv 3) pa_nil)) (pv 4)) pe_int (nomark _)) (pw_and1 (pt_cmpR (op_eqD hr.units) (pe_op op_cat (pe_slice sl_list (pv 3) (po_some (pv 4)) po_none) (pe_slice sl_list (pv 3) po_none (po_some (pv 4)))) (pv 3) (nomark _))))) (pss_one (ps_ret (pv 4))) pss_nil)))
 (pss_one (ps_ret (pe_callB call_len rfl T.len PySem.boot_len (pa_cons (pv 3) pa_nil)))))))), ?_⟩
    intro D0 hD0
    have x0 : Ex H (upd H D0 (.dT [])) := Ex.new hD0
    refine ⟨_, rfl, a, rfl, ⟨_, SqL.of (x0 _ _ ha)⟩, for_list (K := K) (a := a) (xs := xs) (fun i σ H' => ∃ v2, σ = [some (.ref a), some (.ref D0), v2, none, none] ∧ Ex H H' ∧ ∃ kvs, H' D0 = some (.dT kvs) ∧ Nums kvs (ks.take i))
      ⟨none, rfl, x0, [], upd_same, Nums.zero⟩ (fun i σ H' _ ⟨_, _, e, _⟩ => SqL.of (e _ _ ha)) ?_ ?_⟩
    · rintro i x σ H1 hi ⟨v2, rfl, e1, kvs, d1, n1⟩
      obtain ⟨kk, hk1, q, rfl, hq⟩ := hx.getV hi
      have tk : ks.take (i + 1) = ks.take i ++ [kk] := by
        rw [List.take_succ, hk1]
        rfl
      have lt : (ks.take i).length ≤ ks.length := by rw [List.length_take]; omega
      have nl := n1.len
      refine ⟨_, rfl, D0, rfl, .inr ⟨_, .inl d1⟩, _, rfl, _, rfl, D0, kvs, rfl, d1, kvs, kk, q, d1, rfl, e1 _ _ hq, line_lt (by omega), fun v hv => ?_, fun hn => ?_⟩
      · refine ⟨_, rfl, e1, kvs, d1, ?_⟩
        rw [tk]
        exact n1.old hv
      · refine ⟨_, rfl, Evl.Ex.mut e1 hD0, _, upd_same, ?_⟩
        rw [tk]
        exact n1.new hn
    · rintro σ H1 ⟨v2, rfl, e1, kvs, d1, n1⟩
      have tl : ks.take xs.length = ks := by rw [lx, List.take_length]
      rw [tl] at n1
      have nk := n1
      refine ⟨_, rfl, a, rfl, ⟨_, SqL.of (e1 _ _ ha)⟩, fun D hD => lc_list (xs := xs) (fun j H' => Ex H1 H' ∧ H' D = some (.lst (((ks.take j).map (numOf kvs)).map V.int))) ⟨Ex.new hD, upd_same⟩ (fun j H' _ z => SqL.of (z.1 _ _ (e1 _ _ ha))) ?_ ?_⟩
      · rintro j x H2 hj ⟨e2, hd⟩
        obtain ⟨kk, hk1, q, rfl, hq⟩ := hx.getV hj
        have tk : ks.take (j + 1) = ks.take j ++ [kk] := by
          rw [List.take_succ, hk1]
          rfl
        have dg : DGet H2 D0 (.ref q) (some (.int (numOf kvs kk))) := by
          rw [← n1.num (List.mem_of_getElem? hk1)]
          exact DGet.t (e2 _ _ d1) (e2 _ _ (e1 _ _ hq))
        refine ⟨rfl, _, rfl, _, rfl, D0, _, rfl, dg, _, hd, line_lt (by rw [List.length_map, List.length_map, List.length_take]; omega), Evl.Ex.mut e2 hD, ?_⟩
        rw [upd_same, tk, List.map_append, List.map_append]
        rfl
      · rintro H2 ⟨e2, hd⟩
        rw [tl] at hd
        have e12 := e1.trans e2
        have lr : ((ks.map (numOf kvs)).map V.int).length = ks.length := by rw [List.length_map, List.length_map]
        have hpos : 0 < ks.length := List.length_pos_iff.mpr hne
        refine ⟨_, rfl, _, _, rfl, .inl ⟨_, SqL.of hd, rfl⟩, 1, _, rfl, ⟨by decide, by decide, by omega, by omega⟩, for_range (lo := 1) (n := _) (fun i σ H' => ∃ v4, σ = [some (.ref a), some (.ref D0), v2, some (.ref D), v4] ∧ Ex H H' ∧ H' D = some (.lst ((ks.map (numOf kvs)).map V.int)) ∧ ∀ j, 0 < j → j < i + 1 → ¬ Rot ks j) ⟨none, rfl, e12, hd, fun j h1 h2 => by omega⟩ ?_ ?_⟩
        · rintro i σ H3 hi ⟨v4, rfl, e3, hd3, no⟩
          rw [show (1 : Int) + (i : Nat) = ((i + 1 : Nat) : Int) by omega]
          have hi' : i + 1 < ks.length := by omega
          refine ⟨_, rfl, _, _, rfl, .inl ⟨_, SqL.of hd3, rfl⟩, _, rfl, _, _, rfl, rfl, by omega, rfl, _, rfl, ite2 (fun h1 => ?_) (fun h1 => ?_)⟩
          · refine ⟨_, rfl, _, rfl, _, rfl, D, _, rfl, SqL.of hd3, fun p1 n1 => ?_⟩
            have h1 : ((ks.length : Nat) : Int) % ((i + 1 : Nat) : Int) = 0 := by
              have z := of_decide_eq_true h1
              injection z with z
              rw [lr] at z
              exact z
            have hm : ks.length % (i + 1) = 0 := by
              rw [← Int.natCast_emod] at h1
              exact Int.ofNat.inj h1
            rw [cutV_from (by omega)]
            have E1 : Ex H3 (upd H3 p1 (.lst (((ks.map (numOf kvs)).map V.int).drop (i + 1)))) := Ex.new n1
            refine ⟨_, rfl, _, rfl, _, rfl, D, _, rfl, SqL.of (E1 _ _ hd3), fun p2 n2 => ?_⟩
            rw [cutV_to (by omega)]
            have E2 := E1.trans (Ex.new n2 (o := .lst (((ks.map (numOf kvs)).map V.int).take (i + 1))))
            refine ⟨p1, p2, _, _, rfl, rfl, Ex.new n2 _ _ upd_same, upd_same, line_of (by rw [List.length_drop, List.length_take]; omega), fun p3 n3 => ?_⟩
            have E3 := E2.trans (Ex.new n3 (o := .lst (((ks.map (numOf kvs)).map V.int).drop (i + 1) ++ ((ks.map (numOf kvs)).map V.int).take (i + 1))))
            have ec : ((ks.map (numOf kvs)).map V.int).drop (i + 1) ++ ((ks.map (numOf kvs)).map V.int).take (i + 1) = ((ks.map (numOf kvs)).drop (i + 1) ++ (ks.map (numOf kvs)).take (i + 1)).map V.int := by
              rw [List.map_append, List.map_drop, List.map_take]
            refine ⟨_, rfl, dInts ((ks.map (numOf kvs)).drop (i + 1) ++ (ks.map (numOf kvs)).take (i + 1)), dInts (ks.map (numOf kvs)), dp_ints (by rw [← ec]; exact upd_same), dp_ints (E3 _ _ hd3), shaped_int2 _, shaped_int2 _, _, rfl, ?_⟩
            rw [eqv_int2]
            refine ite2 (fun h2 => ?_) (fun h2 => ?_)
            · have h2 := (rot_map nk.inj_on (i + 1)).mp (of_decide_eq_true h2)
              exact ⟨_, rfl, k (i + 1) _ (e3.trans E3) ⟨by omega, ⟨hm, h2⟩, no⟩⟩
            · have h2 : ¬ (ks.drop (i + 1) ++ ks.take (i + 1) = ks) := fun z => h2 (decide_eq_true ((rot_map nk.inj_on (i + 1)).mpr z))
              refine ⟨_, rfl, e3.trans E3, E3 _ _ hd3, fun j h3 h4 => ?_⟩
              by_cases q : j = i + 1
              · subst q
                exact fun z => h2 z.2
              · exact no j h3 (by omega)
          · have h1 : ¬ (ks.length % (i + 1) = 0) := fun z => h1 (decide_eq_true (by
              show V.int _ = V.int 0
              rw [lr, ← Int.natCast_emod, z]
              rfl))
            refine ⟨_, rfl, e3, hd3, fun j h3 h4 => ?_⟩
            by_cases q : j = i + 1
            · subst q
              exact fun z => h1 z.1
            · exact no j h3 (by omega)
        · rintro σ H3 ⟨v4, rfl, e3, hd3, no⟩
          refine ⟨_, rfl, _, _, rfl, .inl ⟨_, SqL.of hd3, rfl⟩, ?_⟩
          rw [lr] at *
          exact k ks.length H3 e3 ⟨hpos, ⟨Nat.mod_self _, by rw [List.drop_length, List.take_length, List.nil_append]⟩, fun j h1 h2 => no j h1 (by omega)⟩
def tkey (U n : Int) : List Key := [.inl (nt U n), .inl (nb U n)]
/-- the key of a place in the ring, with the start that comes after -/
def ringKey (U af : Int) (r : Row) : List Key := tkey U (af - r.getD 0 0) ++ tkey U (r.getD 1 0 - r.getD 0 0) ++ mkey U (r.getD 2 0 - r.getD 0 0) (r.getD 3 0 - r.getD 0 0) (r.getD 4 0)
def afterAt (S : Int) (R : List Row) (i : Nat) : Int := if i + 1 < R.length then (R.getD (i + 1) []).getD 0 0 else (R.getD 0 []).getD 0 0 + S
def ringKeys (U S : Int) (R : List Row) : List (List Key) := (List.range R.length).map fun i => ringKey U (afterAt S R i) (R.getD i [])
abbrev sRk : Stmt := top 70
theorem scRk : FnScope ["span", "ring", "keys", "place", "row", "after", "gap", "length"] ["span", "ring"] (defScope sRk) := ⟨rfl, rfl, rfl, by decide +kernel, rfl, by decide +kernel, by decide +kernel⟩
def spRk (C : Addr) : Sp := fun vs H Q _ => ∃ (U S : Int) (x : V) (a : Addr) (xs : List V) (R : List Row), vs = [x, .ref a] ∧ Un U ∧ MU C U S x H ∧ H a = some (.lst xs) ∧ RsU C U ks5 R xs H ∧ (∀ r ∈ R, SmR 385 r) ∧ Sm 385 S ∧ R.length ≤ 500000 ∧
  ∀ (p : Addr) (zs : List V) (H' : Hp), Ex H H' → H' p = some (.lst zs) → Al KeyU H' (ringKeys U S R) zs → Q (.ref p) H'
theorem ok_ring_keys {f : Addr} {fd : FuncData} {tb : Tok} (F : Fun K "_ring_keys" "_ring_keys" sRk f fd) (M : MoE P w K mg base C CN) (TX : Tx2 K mg tb) (OK : Ok P w K mg base CX0 1 "mark_key" ["row"] (spMk C)) (OV : Ok P w K mg base CX0 8 "moved" ["row", "time"] (spMv C)) : FnOk P w K mg base CX0 9 f fd ["span", "ring"] (spRk C) := by
  have T := M.T
  obtain ⟨fMk, fdMk, GMk, mMk, kMk, bMk⟩ := OK
  obtain ⟨fMv, fdMv, GMv, mMv, kMv, bMv⟩ := OV
  refine F.ok scRk (fun vs H Q E h => ?_) (fun cdv A outer s H vs Q E hr h => ?_)
  · obtain ⟨U, S, x, a, xs, R, rfl, _⟩ := h
    rfl
  · obtain ⟨U, S, x, a, xs, R, rfl, hU, hS, ha, hx, hsm, hSs, hlen, k⟩ := h
    have lx := hx.len
    let X := (cxOf CX0 P w K mg base ["span", "ring", "keys", "place", "row", "after", "gap", "length"] "_ring_keys" (defScope sRk) f cdv A outer s H E).nox
    have oAdd := MoE.oAdd (X := X) M (hr.mono (by decide))
    have oSub := MoE.oSub (X := X) M (hr.mono (by decide))
    have oNeg := MoE.oNeg (X := X) M (hr.mono (by decide))
    refine ⟨_, (pss_cons (ps_set (i := 2) scRk.nd rfl (Or.inl rfl) (pe_lst pa_nil))
 (pss_cons (ps_for PassesOwn.never rfl (pi_enum (by rfl) TX.enum (pa_cons (pv 1) pa_nil)) (pg_tup rfl (pgs_cons (pg_name (i := 3) scRk.nd rfl (Or.inl rfl)) (pgs_cons (pg_name (i := 4) scRk.nd rfl (Or.inl rfl)) pgs_nil))) (Evl.pss_cut (ps_set (i := 5) scRk.nd rfl (Or.inl rfl) (pe_ifExp (pt_cmpR op_lt (pe_op op_add (pv 3) pe_int) (pe_callB call_len rfl T.len PySem.boot_len (pa_cons (pv 1) pa_nil)) (nomark _)) (pe_ix ix_tup (pe_ix ix_list (pv 1) (pe_op op_add (pv 3) pe_int) (fun _ _ => rfl)) pe_int (fun _ _ => rfl)) (pe_op oAdd (pe_ix ix_tup (pe_ix ix_list (pv 1) pe_int (fun _ _ => rfl)) pe_int (fun _ _ => rfl)) (pv 0))))
 (pss_cons (ps_set (i := 6) scRk.nd rfl (Or.inl rfl) (pe_op oSub (pv 5) (pe_ix ix_tup (pv 4) pe_int (fun _ _ => rfl))))
 (pss_cons (ps_set (i := 7) scRk.nd rfl (Or.inl rfl) (pe_op oSub (pe_ix ix_tup (pv 4) pe_int (fun _ _ => rfl)) (pe_ix ix_tup (pv 4) pe_int (fun _ _ => rfl))))
 (pss_one (ps_expr (pe_bm PySem.F.plainAttrs_list PySem.F.slot_list_append PySem.F.type_list_append mt_append (pv 2) (pa_cons (pe_tup (pa_cons (pe_fld (pv 6) rfl) (pa_cons (pe_fld (pv 6) rfl) (pa_cons (pe_fld (pv 7) rfl) (pa_cons (pe_fld (pv 7) rfl) (StX.pa_star (pe_call GMk (hr.mono (by decide)) rfl mMk kMk bMk .nil pass0 (pa_cons (pe_call GMv (hr.mono (by decide)) rfl mMv kMv bMv .nil pass0 (pa_cons (pv 4) (pa_cons (pe_un oNeg (pe_ix ix_tup (pv 4) pe_int (fun _ _ => rfl))) pa_nil))) pa_nil)) pa_nil)))))) pa_nil))))))))
 (pss_one (ps_ret (pv 2))))), ?_⟩
    refine ⟨by show 0 ≤ sizeLine; decide, fun o ho => ?_⟩
    have x0 : Ex H (upd H o (.lst [])) := Ex.new ho
    refine ⟨_, rfl, a, xs, rfl, SqL.of (x0 _ _ ha), for_it (walk_enum (xs := xs)) (fun i σ H' => ∃ v3 v4 v5 v6 v7 zs, σ = [some x, some (.ref a), some (.ref o), v3, v4, v5, v6, v7] ∧ Ex H H' ∧ H' o = some (.lst zs) ∧ Al KeyU H' ((ringKeys U S R).take i) zs)
      ⟨_, _, _, _, _, _, rfl, x0, upd_same, .nil⟩ (fun i σ H' _ ⟨_, _, _, _, _, _, _, e, _⟩ => SqL.of (e _ _ ha)) ?_ ?_⟩
    · rintro i y σ H1 H2 hi ⟨v3, v4, v5, v6, v7, zs, rfl, e1, ho1, hz⟩ hy
      obtain ⟨T', y1, y2, rfl, hT, rfl, he1, he2⟩ := hy
      obtain rfl := Option.some.inj he1
      obtain ⟨r, hr1, hr2⟩ := hx.getV he2
      have hrR := List.mem_of_getElem? hr1
      have sr := hsm r hrR
      obtain ⟨s0, p0, b0, e0, k0, rfl, q, xs0, xp0, xb0, xe0, rfl, hq, -⟩ := row5 hr2
      have eT : Ex H1 (upd H1 T' (.tup [.int (i : Nat), .ref q])) := Ex.new hT
      have e2 := e1.trans eT
      have ss : Sm 385 s0 := sr s0 (by simp)
      have sp : Sm 385 p0 := sr p0 (by simp)
      have sb : Sm 385 b0 := sr b0 (by simp)
      have se' : Sm 385 e0 := sr e0 (by simp)
      refine ⟨T', _, rfl, SqT.of upd_same, rfl, _, _, rfl, _, _, rfl, rfl, ?_⟩
      have hi2 : i < R.length := by omega
      have gi : R.getD i [] = [s0, p0, b0, e0, k0] := getD_at hr1
      refine ⟨fun σ H' => ∃ v5, σ = [some x, some (.ref a), some (.ref o), some (.int (i : Nat)), some (.ref q), some v5, v6, v7] ∧ Ex (upd H1 T' (.tup [.int (i : Nat), .ref q])) H' ∧ MU C U (afterAt S R i) v5 H' ∧ Sm 386 (afterAt S R i), ?_, ?_⟩
      · refine ⟨_, rfl, _, _, rfl, rfl, _, rfl, _, _, rfl, .inl ⟨_, SqL.of (e2 _ _ ha), rfl⟩, _, _, rfl, rfl, _, rfl, ite2 (fun h1 => ?_) (fun h1 => ?_)⟩
        · have h1 : i + 1 < R.length := by
            have := of_decide_eq_true h1
            rw [← lx]
            omega
          have g1 := List.getElem?_eq_getElem h1
          obtain ⟨v', hv1, hv2⟩ := hx.get g1
          obtain ⟨s1, p1, b1, e1', k1, er, q1, xs1, xp1, xb1, xe1, rfl, hq1, n1, -⟩ := row5 (hv2.ex e2)
          have ea : afterAt S R i = s1 := by
            unfold afterAt
            rw [if_pos h1, getD_at g1, er]
            rfl
          rw [ea]
          refine ⟨_, rfl, _, rfl, _, _, rfl, rfl, a, _, _, _, rfl, rfl, SqL.of (e2 _ _ ha), atI_nat (j := i + 1) hv1, q1, _, _, _, rfl, rfl, SqT.of hq1, at0, ?_⟩
          exact ⟨_, rfl, Ex.refl _, n1, (hsm _ (List.mem_of_getElem? g1) s1 (by rw [er]; simp)).mono (by decide)⟩
        · have h1 : ¬ i + 1 < R.length := by
            have := of_decide_eq_false (Bool.eq_false_iff.mpr h1)
            rw [← lx]
            omega
          have h0 : 0 < R.length := by omega
          have g1 := List.getElem?_eq_getElem h0
          obtain ⟨v', hv1, hv2⟩ := hx.get g1
          obtain ⟨s1, p1, b1, e1', k1, er, q1, xs1, xp1, xb1, xe1, rfl, hq1, n1, -⟩ := row5 (hv2.ex e2)
          have ea : afterAt S R i = s1 + S := by
            unfold afterAt
            rw [if_neg h1, getD_at g1, er]
            rfl
          have s1s := (hsm _ (List.mem_of_getElem? g1) s1 (by rw [er]; simp)).add hSs
          rw [ea]
          refine ⟨_, rfl, a, _, _, _, rfl, rfl, SqL.of (e2 _ _ ha), atI_nat (j := 0) hv1, q1, _, _, _, rfl, rfl, SqT.of hq1, at0, _, rfl, add_rd hU n1 (hS.ex e2).tu (s1s.mono (by decide)) fun v H3 e3 n3 => ?_⟩
          exact ⟨_, rfl, e3, n3, s1s⟩
      · rintro σ H3 ⟨v5, rfl, e3, n5, sa⟩
        generalize haf : afterAt S R i = af at *
        have e23 := e2.trans e3
        obtain ⟨_, _, _, _, _, er, q', xs1, xp1, xb1, xe1, eq', hq3, n1, n2, n3, n4⟩ := row5 (hr2.ex e23)
        cases er
        cases eq'
        have sg1 : Sm 387 (af - s0) := sa.sub (ss.mono (by decide))
        have sg2 : Sm 386 (p0 - s0) := sp.sub ss
        refine ⟨_, rfl, _, rfl, q, _, _, _, rfl, rfl, SqT.of hq3, at0, sub_rd hU n5 n1.tu (sg1.mono (by decide)) fun v6' H4 e4 m6 => ?_⟩
        refine ⟨_, rfl, q, _, _, _, rfl, rfl, SqT.of (e4 _ _ hq3), at1, _, rfl, q, _, _, _, rfl, rfl, SqT.of (e4 _ _ hq3), at0, sub_rd hU (n2.ex e4) (n1.ex e4).tu (sg2.mono (by decide)) fun v7' H5 e5 m7 => ?_⟩
        have e45 := e4.trans e5
        obtain ⟨a6, d6, rfl, h6⟩ := (m6.ex e5).at_ hU
        obtain ⟨a7, d7, rfl, h7⟩ := m7.at_ hU
        have e25 := e23.trans e45
        have ho5 := (eT.trans (e3.trans e45)) _ _ ho1
        refine ⟨_, rfl, .inl ⟨rfl, _, SqL.of ho5⟩, _, rfl, a6, C, d6, _, _, rfl, h6, T.cl, T.nT, mf_top _ _, _, rfl, a6, C, d6, _, _, rfl, h6, T.cl, T.nB, mf_bottom _ _, _, rfl, a7, C, d7, _, _, rfl, h7, T.cl, T.nT, mf_top _ _, _, rfl, a7, C, d7, _, _, rfl, h7, T.cl, T.nB, mf_bottom _ _, ?_⟩
        have hq5 := e45 _ _ hq3
        have rw5 := (hr2.ex e23).ex e45
        refine ⟨_, rfl, _, rfl, q, _, _, _, rfl, rfl, SqT.of hq5, at0, neg_rd hU (n1.ex e45) fun v8 H6 e6 m8 => ?_⟩
        refine ⟨U, -s0, s0, p0, b0, e0, k0, _, _, rfl, hU, rw5.ex e6, m8, (ss.add ss.neg).mono (by decide), (sp.add ss.neg).mono (by decide), (sb.add ss.neg).mono (by decide), (se'.add ss.neg).mono (by decide), fun v9 H7 e7 t9 => ?_⟩
        refine ⟨U, _, _, _, _, _, _, rfl, hU, t9, fun q9 H8 e8 hq9 => ?_⟩
        refine ⟨q9, _, rfl, .inl (SqT.of hq9), by show 9 ≤ sizeLine; decide, fun z hz9 => ?_⟩
        have E8 := e6.trans (e7.trans e8)
        have ez : Ex H8 (upd H8 z (.tup ((ringKey U af [s0, p0, b0, e0, k0]).map kV))) := Ex.new hz9
        have ho8 := E8 _ _ ho5
        have ho9 := ez _ _ ho8
        have lz := hz.len
        rw [List.length_take] at lz
        have s9 := St.lst (o := .lst (zs ++ [V.ref z])) ho9
        have tk : (ringKeys U S R).take (i + 1) = (ringKeys U S R).take i ++ [ringKey U af [s0, p0, b0, e0, k0]] := by
          have : (ringKeys U S R)[i]? = some (ringKey U af [s0, p0, b0, e0, k0]) := by
            unfold ringKeys
            rw [List.getElem?_map, List.getElem?_range hi2, ← haf, ← gi]
            rfl
          rw [List.take_succ, this]
          rfl
        refine ⟨o, zs, _, rfl, rfl, ho9, line_lt (by omega), ⟨_, _, _, _, _, _, rfl, Evl.Ex.mut (e25.trans (E8.trans ez)) ho, upd_same, ?_⟩⟩
        rw [tk]
        have S9 : St H1 (upd (upd H8 z (.tup ((ringKey U af [s0, p0, b0, e0, k0]).map kV))) o (.lst (zs ++ [V.ref z]))) := (St.of (eT.trans (e3.trans (e45.trans (E8.trans ez))))).trans s9
        exact (hz.map fun k v h => h.st S9).snoc ⟨z, rfl, by rw [upd_ne (ne_of_none ho8 hz9).symm]; exact upd_same⟩
    · rintro σ H1 ⟨v3, v4, v5, v6, v7, zs, rfl, e1, ho1, hz⟩
      have ll : (ringKeys U S R).length = xs.length := by unfold ringKeys; rw [List.length_map, List.length_range, lx]
      rw [← ll, List.take_length] at hz
      exact ⟨_, rfl, k o zs H1 e1 ho1 hz⟩
theorem nb_le {U n q z : Int} (hU : 0 < U) (hq : 0 < q) (e : n * q = z * U) : nb U n ≤ q := by
  have N := norm_mk (n := n) (Int.ne_of_gt hU)
  have h1 : nt U n * U = n * nb U n := N.eq
  have h2 : Int.gcd (nt U n) (nb U n) = 1 := N.gcd
  have h3 : nt U n * q = z * nb U n := by
    refine Int.eq_of_mul_eq_mul_left (Int.ne_of_gt hU) ?_
    grind
  have h4 : nb U n ∣ nt U n * q := ⟨z, by rw [h3, Int.mul_comm]⟩
  have h5 : nb U n ∣ q := by
    rw [← Int.natAbs_dvd_natAbs] at h4 ⊢
    rw [Int.natAbs_mul] at h4
    rw [Int.gcd_comm] at h2
    exact Nat.Coprime.dvd_of_dvd_mul_left h2 h4
  exact Int.le_of_dvd hq h5
theorem turn_le {α : Type} {ks : List α} {m n : Nat} (hn : 0 < n) (h : LTurn ks m) (e : ks.length = n) : m ≤ n ∧ 0 < n / m := by
  have h1 : m ≤ n := by
    have := h.rot.1
    rw [e] at this
    exact Nat.le_of_dvd hn (Nat.dvd_of_mod_eq_zero this)
  exact ⟨h1, Nat.div_pos h1 h.pos⟩
/-! the sum over a ring that is the same when it is turned by m -/
theorem sum_turn : ∀ (q : Nat) {gs : List Int} {m : Nat}, gs.length = q * m → gs.drop m ++ gs.take m = gs → gs.sum = (gs.take m).sum * (q : Nat)
  | 0, gs, m, hl, _ => by
    rw [Nat.zero_mul] at hl
    rw [List.eq_nil_of_length_eq_zero hl]
    simp
  | 1, gs, m, hl, _ => by
    rw [Nat.one_mul] at hl
    rw [List.take_of_length_le (by omega)]
    simp
  | q + 2, gs, m, hl, h => by
    have hm : m ≤ gs.length := by rw [hl]; exact Nat.le_mul_of_pos_left m (by omega)
    have l1 : (gs.drop m).length = (q + 1) * m := by
      rw [List.length_drop, hl]
      have : (q + 2) * m = (q + 1) * m + m := by rw [Nat.add_mul, Nat.add_mul]; omega
      omega
    have hm2 : m ≤ (gs.drop m).length := by rw [l1]; exact Nat.le_mul_of_pos_left m (by omega)
    -- the first m of the rest are the first m
    have t1 : (gs.drop m).take m = gs.take m := by
      have := congrArg (List.take m) h
      rw [List.take_append_of_le_length hm2] at this
      exact this
    have h2 : (gs.drop m).drop m ++ (gs.drop m).take m = gs.drop m := by
      have := congrArg (List.drop m) h
      rw [List.drop_append_of_le_length hm2] at this
      rw [t1]
      exact this
    have ih := sum_turn (q + 1) l1 h2
    rw [t1] at ih
    have : gs.sum = (gs.take m).sum + (gs.drop m).sum := by rw [← List.sum_append, List.take_append_drop]
    rw [this, ih]
    have : ((q + 2 : Nat) : Int) = 1 + ((q + 1 : Nat) : Int) := by omega
    rw [this, Int.mul_add, Int.mul_one]
def gapAt (S : Int) (R : List Row) (i : Nat) : Int := afterAt S R i - (R.getD i []).getD 0 0
theorem ringKey_gap {U af af' : Int} {r r' : Row} (hU : 0 < U) (h : ringKey U af r = ringKey U af' r') : af - r.getD 0 0 = af' - r'.getD 0 0 := by
  unfold ringKey tkey at h
  injection h with h1 h
  injection h with h2 h
  injection h1 with h1
  injection h2 with h2
  exact nt_inj hU h1 h2
theorem turn_div {U S : Int} {R : List Row} {m : Nat} (hU : 0 < U) (hne : R ≠ []) (h : LTurn (ringKeys U S R) m) : ∃ n : Int, n * ((R.length / m : Nat) : Int) = S := by
  have lk : (ringKeys U S R).length = R.length := by unfold ringKeys; rw [List.length_map, List.length_range]
  have hmod := h.rot.1
  rw [lk] at hmod
  have hl : R.length = R.length / m * m := (Nat.div_mul_cancel (Nat.dvd_of_mod_eq_zero hmod)).symm
  have hrot := h.rot.2
  -- gaps are told by the keys
  let g : List Key → Int := fun k => match k with
    | .inl a :: .inl b :: _ => if b = 0 then 0 else (a * U).fdiv b
    | _ => 0
  have hg : (ringKeys U S R).map g = (List.range R.length).map (gapAt S R) := by
    unfold ringKeys
    rw [List.map_map]
    refine List.map_congr_left fun i _ => ?_
    show (if nb U (gapAt S R i) = 0 then 0 else (nt U (gapAt S R i) * U).fdiv (nb U (gapAt S R i))) = _
    have N := norm_mk (n := gapAt S R i) (Int.ne_of_gt hU)
    have h0 : nb U (gapAt S R i) ≠ 0 := Int.ne_of_gt N.pos
    have h1 : nt U (gapAt S R i) * U = gapAt S R i * nb U (gapAt S R i) := N.eq
    rw [if_neg h0, h1, Int.mul_comm, Int.mul_fdiv_cancel_left _ h0]
  have hr2 := congrArg (List.map g) hrot
  rw [List.map_append, List.map_drop, List.map_take, hg] at hr2
  have hlen : ((List.range R.length).map (gapAt S R)).length = R.length / m * m := by rw [List.length_map, List.length_range]; exact hl
  have hs := sum_turn (R.length / m) hlen hr2
  refine ⟨_, hs.symm.trans ?_⟩
  -- the gaps make S
  have tele : ∀ k, k ≤ R.length → 0 < k → ((List.range k).map (gapAt S R)).sum = afterAt S R (k - 1) - (R.getD 0 []).getD 0 0 := by
    intro k
    induction k with
    | zero => intro _ h; cases h
    | succ k ih =>
      intro hk _
      rw [List.range_succ, List.map_append, List.sum_append]
      show _ + (gapAt S R k + 0) = _
      by_cases k0 : k = 0
      · subst k0
        show 0 + (gapAt S R 0 + 0) = _
        unfold gapAt
        rw [Int.zero_add, Int.add_zero]
      · rw [ih (by omega) (by omega), Int.add_zero]
        unfold gapAt
        have : afterAt S R (k - 1) = (R.getD k []).getD 0 0 := by
          unfold afterAt
          rw [if_pos (by omega), show k - 1 + 1 = k by omega]
        rw [this, show k + 1 - 1 = k by omega]
        omega
  rw [tele R.length (Nat.le_refl _) (List.length_pos_iff.mpr hne)]
  have : afterAt S R (R.length - 1) = (R.getD 0 []).getD 0 0 + S := by
    unfold afterAt
    rw [if_neg (by omega)]
  rw [this]
  omega
theorem over_rd {C : Addr} {U n k : Int} {x : V} {H : Hp} {Q : VK} {E : XK} (hU : Un U) (hx : MU C U (n * k) x H) (hk : 0 < k) (sk : Sm 390 k) (q : ∀ (v : V) (H' : Hp), Ex H H' → MU C U n v H' → Q v H') : spOver C [x, .int k] H Q E := by
  obtain ⟨⟨t, b, N, m⟩, s⟩ := hx
  have z := sz hU N s
  refine ⟨x, .int k, t, b, k, 1, rfl, m, .inr ⟨rfl, rfl⟩, N.pos, z.1, z.2, sk.mono (by decide), Sm.mono (k := 1) (by unfold Sm; decide) (by decide), fun h => absurd h (Int.ne_of_gt hk), fun _ t2 b2 v H' N2 e m2 => q v H' e ⟨⟨t2, b2, norm_over N hU.pos hk N2, m2⟩, ?_⟩⟩
  refine s.le ?_
  rw [Int.natAbs_mul]
  exact Nat.le_mul_of_pos_right _ (by omega)
abbrev sTf : Stmt := top 69
theorem scTf : FnScope ["span", "rows", "homed", "ring", "step", "least", "out", "turn", "row"] ["span", "rows"] (defScope sTf) := ⟨rfl, rfl, rfl, by decide +kernel, rfl, by decide +kernel, by decide +kernel⟩
def homedOf (U S : Int) (L : List Row) : List Row := asc (long (rkey U) (homeL S L))
def ringOf (U S : Int) (L : List Row) : List Row := asc (ringL S (homedOf U S L))
theorem form_len {R : List Row} {n : Int} {m : Nat} : ∀ i : Nat, ((List.range i).flatMap fun t => (R.take m).map (mv (n * (t : Nat)))).length = i * min m R.length
  | 0 => by simp
  | i + 1 => by
    rw [List.range_succ, List.flatMap_append, List.length_append, form_len i]
    show _ + ([i].flatMap _).length = _
    rw [List.flatMap_cons, List.flatMap_nil, List.append_nil, List.length_map, List.length_take, Nat.add_mul, Nat.one_mul]
def formRows (U n : Int) (m : Nat) (R : List Row) : List Row := (List.range (nb U n).toNat).flatMap fun t => (R.take m).map (mv (n * (t : Nat)))
def spTf (C : Addr) (d : Nat) : Sp := fun vs H Q _ => ∃ (U S z : Int) (x : V) (a : Addr) (xs : List V) (L : List Row), vs = [x, .ref a] ∧ Un U ∧ MU C U S x H ∧ S = z * U ∧ 0 < z ∧ Sm 380 S ∧ H a = some (.lst xs) ∧ RsU C U ks5 L xs H ∧ (∀ r ∈ L, SmR 380 r) ∧ L.length ≤ 2 ^ d ∧
  (ringOf U S L = [] → ∀ (p q : Addr) (H' : Hp), Ex H H' → H' p = some (.tup [.int 1, .ref q]) → H' q = some (.lst []) → Q (.ref p) H') ∧
  (ringOf U S L ≠ [] → ∀ (m : Nat) (n : Int) (p q : Addr) (zs : List V) (H' : Hp), LTurn (ringKeys U S (ringOf U S L)) m → n * ((ringOf U S L).length / m : Nat) = S → Ex H H' → H' p = some (.tup [.int (nt U n), .ref q]) → H' q = some (.lst zs) → RsU C U ks5 (formRows U n m (ringOf U S L)) zs H' → Q (.ref p) H')
theorem ok_tune_form {f fOv : Addr} {fd fdOv : FuncData} {d : Nat} (F : Fun K "tune_form" "tune_form" sTf f fd) (M : MoE P w K mg base C CN) (hd : d ≤ 17) (mOv : Meth K C "over" fOv) (GOv : FnOk P w K mg base (L2.CX P w) 7 fOv fdOv ["self", "other"] (spOver C)) (bOv : Binds K fdOv ["self", "other"] [])
    (OV : Ok P w K mg base CX0 8 "moved" ["row", "time"] (spMv C)) (OL : Ok P w K mg base CX0 (d + 13) "longest" ["rows"] (spLo C d)) (OI : Ok P w K mg base CX0 (d + 12) "in_order" ["rows"] (spIo C d)) (OT : Ok P w K mg base CX0 2 "least_turn" ["keys"] spLt) (OR : Ok P w K mg base CX0 9 "_ring_keys" ["span", "ring"] (spRk C)) : FnOk P w K mg base CX0 (d + 14) f fd ["span", "rows"] (spTf C d) := by
  have T := M.T
  obtain ⟨fMv, fdMv, GMv, mMv, kMv, bMv⟩ := OV
  obtain ⟨fLo, fdLo, GLo, mLo, kLo, bLo⟩ := OL
  obtain ⟨fIo, fdIo, GIo, mIo, kIo, bIo⟩ := OI
  obtain ⟨fTn, fdTn, GTn, mTn, kTn, bTn⟩ := OT
  obtain ⟨fRk, fdRk, GRk, mRk, kRk, bRk⟩ := OR
  refine F.ok scTf (fun vs H Q E h => ?_) (fun cdv A outer s H vs Q E hr h => ?_)
  · obtain ⟨U, S, z, x, a, xs, L, rfl, _⟩ := h
    rfl
  · obtain ⟨U, S, z, x, a, xs, L, rfl, hU, hS, hSz, hz, sS, ha, hx, hsm, hlen, k0, k1⟩ := h
    have h2 : Room 2 _ := hr.mono (by omega)
    have h6 : Room 6 _ := hr.mono (by omega)
    have h7 : Room 7 _ := hr.mono (by omega)
    have h8 : Room 8 _ := hr.mono (by omega)
    have h9 : Room 9 _ := hr.mono (by omega)
    have hL : Room (d + 13) _ := hr
    have hI : Room (d + 12) _ := hr.mono (by omega)
    have hS0 := hS
    obtain ⟨aS, dS, rfl, hSx⟩ := hS0.at_ hU
    have lx := hx.len
    have big : 2 ^ d ≤ 2 ^ 17 := Nat.pow_le_pow_right (by decide) hd
    have pS : 0 < S := by rw [hSz]; exact Int.mul_pos hz hU.pos
    refine ⟨_, (pss_cons (ps_set (i := 2) scTf.nd rfl (Or.inl rfl) (pe_call GLo hL rfl mLo kLo bLo .nil pass0 (pa_cons (pe_lc (own := [("row", 8)]) rfl scTf.nd (pi_list (pv 1)) (blkOk_by (N := ["span", "rows", "homed", "ring", "step", "least", "out", "turn", "row"]) (sc := defScope sTf) (by decide +kernel)) (fun _ _ _ _ _ => pg_name (i := 8) scTf.nd rfl (Or.inl rfl)) (fun _ _ _ _ _ => pts_nil) (fun _ _ _ _ _ => (pe_call GMv h8 rfl mMv kMv bMv .nil pass0 (pa_cons (pv 8) (pa_cons (pe_un (MoE.oNeg M h6) (pe_op (MoE.oMul M h7) (pv 0) (pe_op (MoE.oFdv M h7) (pe_ix (show IxR _ (rIxT K) from ix_tup) (pv 8) pe_int (fun _ _ => rfl)) (pv 0)))) pa_nil))))) pa_nil)))
 (pss_cons (ps_set (i := 3) scTf.nd rfl (Or.inl rfl) (pe_call GIo hI rfl mIo kIo bIo .nil pass0 (pa_cons (pe_lc (own := [("row", 8)]) rfl scTf.nd (pi_list (pv 2)) (blkOk_by (N := ["span", "rows", "homed", "ring", "step", "least", "out", "turn", "row"]) (sc := defScope sTf) (by decide +kernel)) (fun _ _ _ _ _ => pg_name (i := 8) scTf.nd rfl (Or.inl rfl)) (fun _ _ _ _ _ => pts_nil) (fun _ _ _ _ _ => (pe_call GMv h8 rfl mMv kMv bMv .nil pass0 (pa_cons (pv 8) (pa_cons (pe_un (MoE.oNeg M h6) (pe_op (MoE.oMul M h7) (pv 0) (pe_op (MoE.oFdv M h7) (pe_ix (show IxR _ (rIxT K) from ix_tup) (pv 8) pe_int (fun _ _ => rfl)) (pv 0)))) pa_nil))))) pa_nil)))
 (pss_cons (ps_if (pt_not (pt_truth (pv 3) (fun _ => rfl))) (pss_one (ps_ret (pe_tup (pa_cons pe_int (pa_cons (pe_lst pa_nil) pa_nil))))) pss_nil)
 (pss_cons (ps_set (i := 4) scTf.nd rfl (Or.inl rfl) (pe_call GTn h2 rfl mTn kTn bTn .nil pass0 (pa_cons (pe_call GRk h9 rfl mRk kRk bRk .nil pass0 (pa_cons (pv 0) (pa_cons (pv 3) pa_nil))) pa_nil)))
 (pss_cons (ps_set (i := 5) scTf.nd rfl (Or.inr rfl) (pe_meth (pv 0) T.cl mOv GOv h7 bOv .nil passL (pa_cons (pe_op op_fdivNW (pe_callB call_len rfl T.len PySem.boot_len (pa_cons (pv 3) pa_nil)) (pv 4)) pa_nil)))
 (pss_cons (ps_set (i := 6) scTf.nd rfl (Or.inl rfl) (pe_lst pa_nil))
 (pss_cons (ps_for PassesOwn.never rfl (pi_range1 rfl T.range (pa_cons (pe_fld (pv 5) rfl) pa_nil)) (pg_name (i := 7) scTf.nd rfl (Or.inr rfl)) (pss_one (ps_expr (pe_bm PySem.F.plainAttrs_list PySem.F.slot_list_extend PySem.F.type_list_extend mt_extend (pv 6) (pa_cons (pe_lc (own := [("row", 8)]) rfl scTf.nd (pi_list (pe_slice sl_list (pv 3) po_none (po_some (pv 4)))) (blkOk_by (N := ["span", "rows", "homed", "ring", "step", "least", "out", "turn", "row"]) (sc := defScope sTf) (by decide +kernel)) (fun _ _ _ _ _ => pg_name (i := 8) scTf.nd rfl (Or.inl rfl)) (fun _ _ _ _ _ => pts_nil) (fun _ _ _ _ _ => (pe_call GMv h8 rfl mMv kMv bMv .nil pass0 (pa_cons (pv 8) (pa_cons (pe_op (MoE.oMul M h7) (pv 5) (pv 7)) pa_nil))))) pa_nil)))))
 (pss_one (ps_ret (pe_tup (pa_cons (pe_fld (pv 5) rfl) (pa_cons (pv 6) pa_nil)))))))))))), ?_⟩
    refine ⟨_, rfl, a, rfl, ⟨_, SqL.of ha⟩, fun D hD => lc_list (xs := xs) (fun j H' => Ex H H' ∧ ∃ ys, H' D = some (.lst ys) ∧ RsU C U ks5 ((L.take j).map fun r => mv (hm S (r.getD 2 0)) r) ys H') ⟨Ex.new hD, [], upd_same, .nil⟩ (fun j H' _ z => SqL.of (z.1 _ _ ha)) ?_ ?_⟩
    · rintro j y H1 hj ⟨e1, ys, hy, hry⟩
      obtain ⟨r, hr1, hr2⟩ := hx.getV hj
      have tk : L.take (j + 1) = L.take j ++ [r] := by
        rw [List.take_succ, hr1]
        rfl
      have sr := hsm r (List.mem_of_getElem? hr1)
      obtain ⟨s0, p0, b0, e0, k0, rfl, q, xs0, xp0, xb0, xe0, rfl, hq, n1, n2, n3, n4⟩ := row5 (hr2.ex e1)
      have ss : Sm 380 s0 := sr s0 (by simp)
      have sp : Sm 380 p0 := sr p0 (by simp)
      have sb : Sm 380 b0 := sr b0 (by simp)
      have se' : Sm 380 e0 := sr e0 (by simp)
      have shm : Sm 381 (hm S b0) := sm_hm pS sb (sS.mono (by decide))
      have eN : -(S * b0.fdiv S) = hm S b0 := rfl
      have ly := hry.len
      rw [List.length_map, List.length_take] at ly
      refine ⟨rfl, _, rfl, _, rfl, _, rfl, q, _, _, _, rfl, rfl, SqT.of hq, at2, _, rfl, floor_rd hU n3 (hS.ex e1).tu (Int.ne_of_gt pS) fun H2 e2 => ?_⟩
      refine mul_rd hU (hS.ex (e1.trans e2)) (sm_div pS (sb.mono (by decide))) ?_ fun v3 H3 e3 m3 => ?_
      · have := shm.neg.mono (by decide : 381 ≤ 390)
        rw [← eN, Int.neg_neg] at this
        exact this
      refine neg_rd hU m3 fun v4 H4 e4 m4 => ?_
      rw [eN] at m4
      have e14 := e2.trans (e3.trans e4)
      refine ⟨U, _, s0, p0, b0, e0, k0, _, _, rfl, hU, (hr2.ex e1).ex e14, m4, ((ss.mono (by decide)).add shm).mono (by decide), ((sp.mono (by decide)).add shm).mono (by decide), ((sb.mono (by decide)).add shm).mono (by decide), ((se'.mono (by decide)).add shm).mono (by decide), fun v5 H5 e5 t5 => ?_⟩
      have e15 := e14.trans e5
      have hy5 := e15 _ _ hy
      have s9 := St.lst (o := .lst (ys ++ [v5])) hy5
      refine ⟨_, hy5, line_lt (by omega), Evl.Ex.mut (e1.trans e15) hD, _, upd_same, ?_⟩
      rw [tk, List.map_append]
      exact (RsU.st (ks := ks5) hry ((St.of e15).trans s9)).snoc (t5.st s9)
    rintro H1 ⟨e1, ys, hy1, hry⟩
    have hry : RsU C U ks5 (homeL S L) ys H1 := by
      rw [lx, List.take_length] at hry
      exact hry
    have lh : (homeL S L).length = L.length := List.length_map ..
    refine ⟨U, _, ys, homeL S L, rfl, hU, hy1, hry, by rw [lh]; exact hlen, fun p2 zs2 N2 H2 e2 hp2 hz2 pN2 sN2 => ?_⟩
    have eN2 : N2 = homedOf U S L := asc_of pN2 sN2
    subst eN2
    have lh2 : (homedOf U S L).length ≤ L.length := by
      rw [pN2.length_eq, ← lh]
      exact long_len _ _
    have lz2 := hz2.len
    have e02 := e1.trans e2
    have hsm2 : ∀ r ∈ homedOf U S L, SmR 382 r := fun r hr => long_sm (by decide) (sub_size (k := 380) (by decide) pS (sS.mono (by decide)) hsm) r (pN2.mem_iff.mp hr)
    refine ⟨_, rfl, p2, rfl, ⟨_, SqL.of hp2⟩, fun D hD => lc_list (xs := zs2) (fun j H' => Ex H2 H' ∧ ∃ ys, H' D = some (.lst ys) ∧ RsU C U ks5 (((homedOf U S L).take j).map fun r => mv (hm S (r.getD 0 0)) r) ys H') ⟨Ex.new hD, [], upd_same, .nil⟩ (fun j H' _ z => SqL.of (z.1 _ _ hp2)) ?_ ?_⟩
    · rintro j y H1 hj ⟨e1, ys, hy, hry⟩
      obtain ⟨r, hr1, hr2⟩ := hz2.getV hj
      have tk : (homedOf U S L).take (j + 1) = (homedOf U S L).take j ++ [r] := by
        rw [List.take_succ, hr1]
        rfl
      have sr := hsm2 r (List.mem_of_getElem? hr1)
      obtain ⟨s0, p0, b0, e0, k0, rfl, q, xs0, xp0, xb0, xe0, rfl, hq, n1, n2, n3, n4⟩ := row5 (hr2.ex e1)
      have ss : Sm 382 s0 := sr s0 (by simp)
      have sp : Sm 382 p0 := sr p0 (by simp)
      have sb : Sm 382 b0 := sr b0 (by simp)
      have se' : Sm 382 e0 := sr e0 (by simp)
      have shm : Sm 383 (hm S s0) := sm_hm pS ss (sS.mono (by decide))
      have eN : -(S * s0.fdiv S) = hm S s0 := rfl
      have ly := hry.len
      rw [List.length_map, List.length_take] at ly
      refine ⟨rfl, _, rfl, _, rfl, _, rfl, q, _, _, _, rfl, rfl, SqT.of hq, at0, _, rfl, floor_rd hU n1 (hS.ex (e02.trans e1)).tu (Int.ne_of_gt pS) fun H2 e2 => ?_⟩
      refine mul_rd hU (hS.ex (e02.trans (e1.trans e2))) (sm_div pS (ss.mono (by decide))) ?_ fun v3 H3 e3 m3 => ?_
      · have := shm.neg.mono (by decide : 383 ≤ 390)
        rw [← eN, Int.neg_neg] at this
        exact this
      refine neg_rd hU m3 fun v4 H4 e4 m4 => ?_
      rw [eN] at m4
      have e14 := e2.trans (e3.trans e4)
      refine ⟨U, _, s0, p0, b0, e0, k0, _, _, rfl, hU, (hr2.ex e1).ex e14, m4, ((ss.mono (by decide)).add shm).mono (by decide), ((sp.mono (by decide)).add shm).mono (by decide), ((sb.mono (by decide)).add shm).mono (by decide), ((se'.mono (by decide)).add shm).mono (by decide), fun v5 H5 e5 t5 => ?_⟩
      have e15 := e14.trans e5
      have hy5 := e15 _ _ hy
      have s9 := St.lst (o := .lst (ys ++ [v5])) hy5
      refine ⟨_, hy5, line_lt (by omega), Evl.Ex.mut (e1.trans e15) hD, _, upd_same, ?_⟩
      rw [tk, List.map_append]
      exact (RsU.st (ks := ks5) hry ((St.of e15).trans s9)).snoc (t5.st s9)
    rintro H3 ⟨e3, ys3, hy3, hry3⟩
    have hry3 : RsU C U ks5 (ringL S (homedOf U S L)) ys3 H3 := by
      rw [lz2, List.take_length] at hry3
      exact hry3
    have lr : (ringL S (homedOf U S L)).length = (homedOf U S L).length := List.length_map ..
    refine ⟨U, [true, true, true, false], _, ys3, ringL S (homedOf U S L), rfl, hU, hy3, hry3, by omega, fun p4 zs4 N4 H4 e4 hp4 hz4 pN4 sN4 => ?_⟩
    have eN4 : N4 = ringOf U S L := asc_of pN4 sN4
    subst eN4
    have hz4 : RsU C U ks5 (ringOf U S L) zs4 H4 := hz4
    have lR : (ringOf U S L).length ≤ L.length := by rw [pN4.length_eq]; omega
    have hsm4 : ∀ r ∈ ringOf U S L, SmR 384 r := fun r hr => sub_size (k := 382) (by decide) pS (sS.mono (by decide)) hsm2 r (pN4.mem_iff.mp hr)
    generalize ringOf U S L = R at *
    have e04 := e02.trans (e3.trans e4)
    have lz4 := hz4.len
    refine ⟨_, rfl, !zs4.isEmpty, .inl ⟨zs4, SqL.of hp4, rfl⟩, ?_⟩
    cases hz4 with
    | nil =>
      refine iteA rfl ⟨by show 0 ≤ sizeLine; decide, fun q hq => ⟨by show 2 ≤ sizeLine; decide, fun p hp => ?_⟩⟩
      exact k0 rfl p q _ (e04.trans ((Ex.new hq).trans (Ex.new hp))) upd_same (by rw [upd_ne (ne_of_none upd_same hp)]; exact upd_same)
    | @cons r0' v0 R' vs0 h0 t0 =>
      refine iteF ?_
      have hz4 : RsU C U ks5 (r0' :: R') (v0 :: vs0) H4 := .cons h0 t0
      have hne : r0' :: R' ≠ [] := by simp
      generalize r0' :: R' = R at *
      generalize v0 :: vs0 = zs4 at *
      refine ⟨_, rfl, _, rfl, U, S, _, p4, zs4, R, rfl, hU, hS.ex e04, hp4, hz4, fun r hr y hy => (hsm4 r hr y hy).mono (by decide), sS.mono (by decide), by omega, fun p5 zs5 H5 e5 hp5 hz5 => ?_⟩
      have lk : (ringKeys U S R).length = R.length := by unfold ringKeys; rw [List.length_map, List.length_range]
      have hRp : 0 < R.length := List.length_pos_iff.mpr hne
      have hkne : ringKeys U S R ≠ [] := fun z => by
        rw [z] at lk
        exact absurd lk (Nat.ne_of_lt hRp)
      refine ⟨p5, zs5, ringKeys U S R, rfl, hp5, hz5, hkne, by omega, fun m H6 e6 hm => ?_⟩
      have e46 := e5.trans e6
      obtain ⟨n, hn⟩ := turn_div hU.pos hne hm
      have hmm : m ≤ R.length ∧ 0 < R.length / m := turn_le hRp hm lk
      have hn0 : 0 < n := Int.lt_of_mul_lt_mul_right (a := ((R.length / m : Nat) : Int)) (by rw [hn, Int.zero_mul]; exact pS) (by omega)
      have nbq : nb U n ≤ ((R.length / m : Nat) : Int) := nb_le hU.pos (by omega) (hn.trans hSz)
      have nb0 : 0 < nb U n := (norm_mk (n := n) (Int.ne_of_gt hU.pos)).pos
      have hq17 : R.length / m ≤ R.length := Nat.div_le_self _ _
      have hdiv : ((zs4.length : Nat) : Int).fdiv ((m : Nat) : Int) = ((R.length / m : Nat) : Int) := by
        rw [lz4, Int.fdiv_eq_ediv_of_nonneg _ (by omega)]
        rfl
      have sm' : Sm 380 ((m : Nat) : Int) := sm_small (by have := hm.pos; omega)
      have e06 := e04.trans e46
      refine ⟨_, rfl, aS, dS, _, rfl, (e06.trans (.refl _)) _ _ hSx, rfl, _, rfl, _, _, rfl, .inl ⟨_, SqL.of (e46 _ _ hp4), rfl⟩, _, rfl, _, _, rfl, rfl, sm'.cdiv (by have := hm.pos; omega), ?_⟩
      refine over_rd hU (n := n) (k := ((zs4.length : Nat) : Int).fdiv ((m : Nat) : Int)) (by rw [hdiv, hn]; exact hS.ex e06) (by rw [hdiv]; omega) (by rw [hdiv]; exact sm_small (by omega)) fun v7 H7 e7 m7 => ?_
      obtain ⟨a7, d7, rfl, h7⟩ := m7.at_ hU
      refine ⟨by show 0 ≤ sizeLine; decide, fun o ho => ?_⟩
      have eo : Ex H7 (upd H7 o (.lst [])) := Ex.new ho
      have hp7 := (e46.trans e7) _ _ hp4
      refine ⟨_, rfl, a7, C, d7, _, _, rfl, eo _ _ h7, T.cl, T.nB, mf_bottom _ _, _, rfl, by omega, by omega, for_range (lo := 0) (n := (nb U n).toNat) (fun i σ H' => ∃ v7, σ = [some (.ref aS), some (.ref a), some (.ref p2), some (.ref p4), some (.int (m : Nat)), some (.ref a7), some (.ref o), v7, none] ∧ Ex H7 H' ∧ ∃ zs, H' o = some (.lst zs) ∧ RsU C U ks5 ((List.range i).flatMap fun t => (R.take m).map (mv (n * (t : Nat)))) zs H')
        ⟨none, rfl, eo, [], upd_same, .nil⟩ ?_ ?_⟩
      · rintro i σ H8 hi ⟨v8, rfl, e8, zs8, ho8, hz8⟩
        refine ⟨_, rfl, .inl ⟨rfl, _, SqL.of ho8⟩, _, rfl, _, rfl, _, rfl, p4, zs4, rfl, SqL.of (e8 _ _ hp7), fun p9 n9 => ?_⟩
        rw [cutV_to (by omega)]
        have hR4 : RsU C U ks5 (R.take m) (zs4.take m) H4 := Al.take hz4 m
        have E9 : Ex H8 (upd H8 p9 (.lst (zs4.take m))) := Ex.new n9
        have e49 := e46.trans (e7.trans (e8.trans E9))
        have at9 : (upd H8 p9 (.lst (zs4.take m))) p9 = some (.lst (zs4.take m)) := upd_same
        have i0 : (0 : Int) + (i : Nat) = ((i : Nat) : Int) := Int.zero_add _
        have hni : n * ((i : Nat) : Int) ≤ S := by
          rw [← hn]
          exact Int.mul_le_mul_of_nonneg_left (by omega) (Int.le_of_lt hn0)
        have hni0 : 0 ≤ n * ((i : Nat) : Int) := Int.mul_nonneg (Int.le_of_lt hn0) (by omega)
        have sni : Sm 380 (n * ((i : Nat) : Int)) := sS.le (by omega)
        have ho9 := E9 _ _ ho8
        generalize upd H8 p9 (.lst (zs4.take m)) = H9 at *
        refine ⟨p9, rfl, ⟨_, SqL.of at9⟩, fun D hD => lc_list (xs := zs4.take m) (fun j H' => Ex H9 H' ∧ ∃ ys, H' D = some (.lst ys) ∧ RsU C U ks5 (((R.take m).take j).map (mv (n * (i : Nat)))) ys H') ⟨Ex.new hD, [], upd_same, .nil⟩ (fun j H' _ z => SqL.of (z.1 _ _ at9)) ?_ ?_⟩
        · rintro j y HA hj ⟨eA, ys, hy, hry⟩
          obtain ⟨r, hr1, hr2⟩ := hR4.getV hj
          have tk : (R.take m).take (j + 1) = (R.take m).take j ++ [r] := by
            rw [List.take_succ, hr1]
            rfl
          have sr := hsm4 r (List.mem_of_mem_take (List.mem_of_getElem? hr1))
          have e4A := e49.trans eA
          obtain ⟨s0, p0, b0, e0, k0', rfl, q, xs0, xp0, xb0, xe0, rfl, hq, n1, n2, n3, n4⟩ := row5 (hr2.ex e4A)
          have ss : Sm 384 s0 := sr s0 (by simp)
          have sp : Sm 384 p0 := sr p0 (by simp)
          have sb : Sm 384 b0 := sr b0 (by simp)
          have se' : Sm 384 e0 := sr e0 (by simp)
          have sn' := sni.mono (by decide : 380 ≤ 384)
          have ly := hry.len
          rw [List.length_map, List.length_take, List.length_take] at ly
          refine ⟨rfl, _, rfl, _, rfl, _, rfl, ?_⟩
          rw [i0]
          refine mul_rd hU (m7.ex (e8.trans (E9.trans eA))) (sm_small (by omega)) (sni.mono (by decide)) fun v3 HB eB mB => ?_
          refine ⟨U, _, s0, p0, b0, e0, k0', _, _, rfl, hU, (hr2.ex e4A).ex eB, mB, (ss.add sn').mono (by decide), (sp.add sn').mono (by decide), (sb.add sn').mono (by decide), (se'.add sn').mono (by decide), fun v5 HC eC t5 => ?_⟩
          have eAC := eB.trans eC
          have hy5 := eAC _ _ hy
          have s9 := St.lst (o := .lst (ys ++ [v5])) hy5
          refine ⟨_, hy5, line_lt (by omega), Evl.Ex.mut (eA.trans eAC) hD, _, upd_same, ?_⟩
          rw [tk, List.map_append]
          exact (RsU.st (ks := ks5) hry ((St.of eAC).trans s9)).snoc (t5.st s9)
        · rintro HA ⟨eA, ys, hy, hry⟩
          have lt : (zs4.take m).length = (R.take m).length := by rw [List.length_take, List.length_take, lz4]
          rw [lt, List.take_length] at hry
          have ly := hry.len
          rw [List.length_map, List.length_take] at ly
          have hoA := eA _ _ ho9
          have l8 := hz8.len
          have hl8 : zs8.length + ys.length ≤ R.length := by
            rw [l8, ly, form_len, Nat.min_eq_left hmm.1]
            have : (i + 1) * m ≤ R.length / m * m := Nat.mul_le_mul_right m (by omega)
            have h3 := Nat.div_mul_le_self R.length m
            rw [Nat.add_mul, Nat.one_mul] at this
            have : i * (min m R.length) ≤ i * m := Nat.mul_le_mul_left i (Nat.min_le_left _ _)
            omega
          have s9 := St.lst (o := .lst (zs8 ++ ys)) hoA
          refine ⟨o, D, _, _, rfl, rfl, hoA, hy, line_of (by omega), _, rfl, Evl.Ex.mut (e8.trans (E9.trans eA)) ho, _, upd_same, ?_⟩
          rw [List.range_succ, List.flatMap_append]
          refine (RsU.st (ks := ks5) hz8 ((St.of (E9.trans eA)).trans s9)).app ?_
          show RsU C U ks5 ([i].flatMap _) ys _
          rw [List.flatMap_cons, List.flatMap_nil, List.append_nil]
          exact RsU.st (ks := ks5) hry s9
      · rintro σ H8 ⟨v8, rfl, e8, zs8, ho8, hz8⟩
        refine ⟨_, rfl, a7, C, d7, _, _, rfl, e8 _ _ h7, T.cl, T.nT, mf_top _ _, _, rfl, by show 2 ≤ sizeLine; decide, fun p9 hp9 => ?_⟩
        have e9 : Ex H8 (upd H8 p9 (.tup [.int (nt U n), .ref o])) := Ex.new hp9
        exact k1 hne m n p9 o zs8 _ hm hn (e06.trans (e7.trans (e8.trans e9))) upd_same (e9 _ _ ho8) (RsU.ex (ks := ks5) hz8 e9)
/-! ### NoMark's and Mark's __init__ -/
structure TxtK (K : PySem.W.Frag) (mg : Str → Option Value) (CM CK fK : Addr) : Prop where
  ox : OexC K CK
  nT : PySem.W.findIn K (.ref CK) "tone" = some none
  nB : PySem.W.findIn K (.ref CK) "begin" = some none
  nE : PySem.W.findIn K (.ref CK) "end" = some none
  iC : PySem.W.findIn K (.ref CK) "__init__" = some (some (.ref fK))
  tI : PySem.W.typeIn K (.ref fK) = some (.type "function")
  mgK : mg "NoMark" = some (.ref CK)
  mgM : mg "Mark" = some (.ref CM)
  cl : Cls K CM
  aT : NoAttr K CM "tone"
  aB : NoAttr K CM "begin"
  aE : NoAttr K CM "end"
  aS : NoAttr K CM "start"
  aP : NoAttr K CM "stop"
theorem ins_st2 {H : Hp} {a dx C' : Addr} {u v x : HO} (ha : H a = some (exo a C' none)) (hd : H dx = none) : ∀ (q C dx' : Addr) (fs : List (Str × V)), H q = some (.ins C dx' fs) → upd (upd (upd H dx u) a v) dx x q = some (.ins C dx' fs) := fun q C d fs e => by
  rw [upd_ne (ne_of_none e hd)]
  exact ins_st ha hd _ _ _ _ e
theorem plainT {v : V} {t b : Int} {H : Hp} (T : Txt K mg C) (h : Tm C t b v H) : Plain K H v := by
  rcases h with ⟨a, dx, rfl, e⟩ | ⟨rfl, _⟩
  · exact .ins e (fun e => .base (.ins e T.cl T.cls T.clg T.clt T.obj)) T.nL T.nD
  · exact .int _
abbrev sNK : Stmt := inClass (top 7) 0
theorem scNK : FnScope ["self", "tone", "begin", "end"] ["self", "tone", "begin", "end"] (defScope sNK) := ⟨rfl, rfl, rfl, by decide +kernel, rfl, by decide +kernel, by decide +kernel⟩
theorem ok_nomark {CM CK f fK : Addr} {fd : FuncData} (F : Fun K "__init__" "NoMark.__init__" sNK f fd) (T : TxtK K mg CM CK fK) (OK : Ok P w K mg base CX0 1 "_kept" ["value"] (spKept K)) : FnOk P w K mg base CX0 2 f fd ["self", "tone", "begin", "end"] (spNoK K CK) := by
  obtain ⟨fKp, fdKp, GKp, mKp, kKp, bKp⟩ := OK
  refine F.ok scNK (fun vs H Q E h => ?_) (fun cdv A outer s H vs Q E hr h => ?_)
  · obtain ⟨a, x, y, z, rfl, _⟩ := h
    rfl
  · obtain ⟨a, x, y, z, rfl, ha, px, py, pz, k⟩ := h
    refine ⟨_, (pss_cons (ps_ost (pv 0) (pe_call GKp (hr.mono (by decide)) rfl mKp kKp bKp .nil pass0 (pa_cons (pv 1) pa_nil)))
 (pss_cons (ps_ost (pv 0) (pe_call GKp (hr.mono (by decide)) rfl mKp kKp bKp .nil pass0 (pa_cons (pv 2) pa_nil)))
 (pss_one (ps_ost (pv 0) (pe_call GKp (hr.mono (by decide)) rfl mKp kKp bKp .nil pass0 (pa_cons (pv 3) pa_nil)))))), ?_⟩
    refine ⟨_, rfl, x, rfl, px, _, rfl, a, CK, rfl, T.ox, T.nT, .inl ⟨ha, fun dx n1 n2 => ?_⟩⟩
    refine ⟨_, rfl, y, rfl, py.keep (ins_st ha n1), _, rfl, a, CK, rfl, T.ox, T.nB, .inr ⟨dx, _, upd_same, (by rw [upd_ne n2, upd_same]), (by show 1 ≤ 900; decide), ?_⟩⟩
    exact ⟨_, rfl, z, rfl, pz.keep (ins_st2 ha n1), _, rfl, a, CK, rfl, T.ox, T.nE, .inr ⟨dx, _, (by rw [upd_ne n2.symm, upd_same]), upd_same, (by show 2 ≤ 900; decide), k dx n1 n2⟩⟩
/-- the order's methods that a mark's check asks -/
structure Ord4 (P : Program) (w : World) (K : PySem.W.Frag) (mg : Str → Option Value) (base : Heap) (C fL fLe fG fGe : Addr) (dL dLe dG dGe : FuncData) : Prop where
  lt : FnOk P w K mg base CX0 7 fL dL ["self", "other"] (spCmp C gLt)
  le : FnOk P w K mg base CX0 7 fLe dLe ["self", "other"] (spCmp C gLe)
  gt : FnOk P w K mg base CX0 7 fG dG ["self", "other"] (spCmp C gGt)
  ge : FnOk P w K mg base CX0 7 fGe dGe ["self", "other"] (spCmp C gGe)
  ltA : PySem.W.findIn K (.ref C) "__lt__" = some (some (.ref fL))
  leA : PySem.W.findIn K (.ref C) "__le__" = some (some (.ref fLe))
  gtA : PySem.W.findIn K (.ref C) "__gt__" = some (some (.ref fG))
  geA : PySem.W.findIn K (.ref C) "__ge__" = some (some (.ref fGe))
  ltF : PySem.W.isFn K (.ref fL) = true
  leF : PySem.W.isFn K (.ref fLe) = true
  gtF : PySem.W.isFn K (.ref fG) = true
  geF : PySem.W.isFn K (.ref fGe) = true
  ltB : Binds K dL ["self", "other"] []
  leB : Binds K dLe ["self", "other"] []
  gtB : Binds K dG ["self", "other"] []
  geB : Binds K dGe ["self", "other"] []
theorem np {f g : Str} {v : V} {fs : List (Str × V)} (h : ¬ f = g) (e : fs.lookup f = none) : (putF g v fs).lookup f = none := by rw [lookup_putF, if_neg h, e]
abbrev sMk : Stmt := inClass (top 56) 0
theorem scMk : FnScope ["self", "tone", "begin", "end", "start", "stop", "first", "last"] ["self", "tone", "begin", "end", "start", "stop"] (defScope sMk) := ⟨rfl, rfl, rfl, by decide +kernel, rfl, by decide +kernel, by decide +kernel⟩
theorem ok_mark {CM CK f fK fL fLe fG fGe : Addr} {fd fdK dL dLe dG dGe : FuncData} {kws : List (Str × V)} (F : FunD K "__init__" "Mark.__init__" (defArgs sMk) (defBody sMk) (defScope sMk) [] kws f fd) (T : Txt K mg C) (TO : Opc K C) (TK : TxtK K mg CM CK fK)
    (FNK : Fun K "__init__" "NoMark.__init__" sNK fK fdK) (bNK : Binds K fdK ["self", "tone", "begin", "end"] []) (OK : Ok P w K mg base CX0 1 "_kept" ["value"] (spKept K)) (R : Ord4 P w K mg base C fL fLe fG fGe dL dLe dG dGe) (OA : Ok P w K mg base CX0 6 "as_moment" ["time"] (spAsM C)) :
    FnOk P w K mg base (L2.CX P w) 9 f fd ["self", "tone", "begin", "end", "start", "stop"] (spMark CM C CK) := by
  have GNK : FnOk P w K mg base CX0 2 fK fdK ["self", "tone", "begin", "end"] (spNoK K CK) := ok_nomark FNK TK OK
  obtain ⟨fAm, fdAm, GAm, mAm, kAm, bAm⟩ := OA
  refine F.ok (CX := L2.CX P w) scMk (fun vs H Q E h => ?_) (fun cdv A outer s H vs Q E hr h => ?_)
  · obtain ⟨p, dx, m, xb, xe, xs, xt, rfl, _⟩ := h
    rfl
  · obtain ⟨p, dx, m, xb, xe, xs, xt, rfl, hp, hb, he, hs, ht, kE, kQ⟩ := h
    let X := cxOf (L2.CX P w) P w K mg base ["self", "tone", "begin", "end", "start", "stop", "first", "last"] "Mark.__init__" (defScope sMk) f cdv A outer s H E
    have oLt := ((op_cmp (X := X) (C := C) (op := .Lt) (E := E0) (fun _ _ => rfl) R.ltA R.ltF R.lt (hr.mono (by decide)) R.ltB pass0).or (op_cmpR (X := X) (C := C) (op := .Lt) (E := E0) TO ic_lt R.gtA R.gtF R.gt (hr.mono (by decide)) R.gtB pass0)).or (op_lt (X := X))
    have oLe := ((op_cmp (X := X) (C := C) (op := .LtE) (E := E0) (fun _ _ => rfl) R.leA R.leF R.le (hr.mono (by decide)) R.leB pass0).or (op_cmpR (X := X) (C := C) (op := .LtE) (E := E0) TO ic_le R.geA R.geF R.ge (hr.mono (by decide)) R.geB pass0)).or (op_le (X := X))
    obtain ⟨ys, hys, hs2⟩ : ∃ ys : V, ys = (if xs = .non then xb else xs) ∧ FT C m.s ys H := by
      rcases hs with ⟨rfl, e⟩ | hs
      · exact ⟨_, rfl, by rw [if_pos rfl, e]; exact hb⟩
      · refine ⟨_, rfl, ?_⟩
        rw [if_neg (by rintro rfl; rcases hs.1 with ⟨a, d, e, _⟩ | ⟨e, _⟩ <;> cases e)]
        exact hs
    obtain ⟨yt, hyt, ht2⟩ : ∃ yt : V, yt = (if xt = .non then xe else xt) ∧ FT C m.t yt H := by
      rcases ht with ⟨rfl, e⟩ | ht
      · exact ⟨_, rfl, by rw [if_pos rfl, e]; exact he⟩
      · refine ⟨_, rfl, ?_⟩
        rw [if_neg (by rintro rfl; rcases ht.1 with ⟨a, d, e, _⟩ | ⟨e, _⟩ <;> cases e)]
        exact ht
    refine ⟨_, (Evl.pss_cut (ps_set (i := 6) scMk.nd rfl (Or.inl rfl) (pe_ifExp (pt_cmpR op_isN (pv 4) pe_non (nomark _)) (pv 2) (pv 4)))
 (Evl.pss_cut (ps_set (i := 7) scMk.nd rfl (Or.inl rfl) (pe_ifExp (pt_cmpR op_isN (pv 5) pe_non (nomark _)) (pv 3) (pv 5)))
 (pss_cons (ps_if (pt_not (pt_chain3 oLe oLt oLe (pv 2) (pv 6) (pv 7) (pv 3))) (pss_one (ps_raise rfl (takes_of rfl rfl rfl rfl) (pmk_oex TK.ox TK.iC TK.tI GNK (hr.mono (by decide)) bNK .nil pass0 rfl TK.mgK (pa_cons (pv 1) (pa_cons (pv 2) (pa_cons (pv 3) pa_nil)))))) pss_nil)
 (pss_cons (ps_fld (pv 0) (pv 1) rfl)
 (pss_cons (ps_fld (pv 0) (pe_call GAm (hr.mono (by decide)) rfl mAm kAm bAm .nil pass0 (pa_cons (pv 2) pa_nil)) rfl)
 (pss_cons (ps_fld (pv 0) (pe_call GAm (hr.mono (by decide)) rfl mAm kAm bAm .nil pass0 (pa_cons (pv 3) pa_nil)) rfl)
 (pss_cons (ps_fld (pv 0) (pe_call GAm (hr.mono (by decide)) rfl mAm kAm bAm .nil pass0 (pa_cons (pv 6) pa_nil)) rfl)
 (pss_one (ps_fld (pv 0) (pe_call GAm (hr.mono (by decide)) rfl mAm kAm bAm .nil pass0 (pa_cons (pv 7) pa_nil)) rfl))))))))), ?_⟩
    refine ⟨fun σ H' => σ = [some (.ref p), some (.int m.n), some xb, some xe, some xs, some xt, some ys, none] ∧ H = H', ⟨_, rfl, rfl, _, rfl, ite2 (fun z => ⟨_, rfl, by rw [hys, if_pos (of_decide_eq_true z)]; rfl, rfl⟩) (fun z => ⟨_, rfl, by rw [hys, if_neg (fun q => z (decide_eq_true q))]; rfl, rfl⟩)⟩, ?_⟩
    rintro σ H' ⟨rfl, rfl⟩
    refine ⟨fun σ H' => σ = [some (.ref p), some (.int m.n), some xb, some xe, some xs, some xt, some ys, some yt] ∧ H = H', ⟨_, rfl, rfl, _, rfl, ite2 (fun z => ⟨_, rfl, by rw [hyt, if_pos (of_decide_eq_true z)]; rfl, rfl⟩) (fun z => ⟨_, rfl, by rw [hyt, if_neg (fun q => z (decide_eq_true q))]; rfl, rfl⟩)⟩, ?_⟩
    rintro σ H' ⟨rfl, rfl⟩
    clear hys hyt hs ht
    refine ⟨_, rfl, _, rfl, cmp_tm hb.1 hs2.1 hb.2.2.1 hb.2.2.2 hs2.2.2.1 hs2.2.2.2 (fun _ _ => rfl) fun H1 e1 => ⟨_, rfl, ite2 (fun h1 => ?_) (fun h1 => ?_)⟩⟩
    rotate_left
    · refine iteT ?_
      refine ⟨_, rfl, _, rfl, _, rfl, (by show 3 ≤ 1000; decide), fun a ha => ⟨a, _, _, _, rfl, upd_same, .int _, plainT T (hb.1.ex (Ex.trans (e1) (Ex.new ha))), plainT T (he.1.ex (Ex.trans (e1) (Ex.new ha))), fun d1 n1 n2 => ⟨rfl, d1, _, ?_, upd_same, ?_, ?_⟩⟩⟩
      · rw [upd_ne n2.symm, upd_ne n2.symm, upd_same]
      · rw [upd_ne n2] at n1
        exact n1
      · rw [upd_ne n2] at n1
        refine kE (fun z => h1 (decide_eq_true (show m.b.1 * m.s.2 ≤ m.s.1 * m.b.2 from z.1))) d1 _ _ (lkt (by decide +kernel) (lkt (by decide +kernel) lkh)) (lkt (by decide +kernel) lkh) lkh upd_same fun q o hq => ?_
        have hq := (e1) _ _ hq
        have q1 : q ≠ d1 := ne_of_none hq n1
        have q2 : q ≠ a := ne_of_none hq ha
        rw [upd_ne q1, del_ne q2, upd_ne q1, upd_ne q1, upd_ne q2, upd_ne q1, upd_ne q2]
        exact hq
    refine ⟨_, rfl, cmp_tm (hs2.1.ex e1) (ht2.1.ex e1) hs2.2.2.1 hs2.2.2.2 ht2.2.2.1 ht2.2.2.2 (fun _ _ => rfl) fun H2 e2 => ⟨_, rfl, ite2 (fun h2 => ?_) (fun h2 => ?_)⟩⟩
    rotate_left
    · refine iteT ?_
      refine ⟨_, rfl, _, rfl, _, rfl, (by show 3 ≤ 1000; decide), fun a ha => ⟨a, _, _, _, rfl, upd_same, .int _, plainT T (hb.1.ex (Ex.trans (e1.trans e2) (Ex.new ha))), plainT T (he.1.ex (Ex.trans (e1.trans e2) (Ex.new ha))), fun d1 n1 n2 => ⟨rfl, d1, _, ?_, upd_same, ?_, ?_⟩⟩⟩
      · rw [upd_ne n2.symm, upd_ne n2.symm, upd_same]
      · rw [upd_ne n2] at n1
        exact n1
      · rw [upd_ne n2] at n1
        refine kE (fun z => h2 (decide_eq_true (show m.s.1 * m.t.2 < m.t.1 * m.s.2 from z.2.1))) d1 _ _ (lkt (by decide +kernel) (lkt (by decide +kernel) lkh)) (lkt (by decide +kernel) lkh) lkh upd_same fun q o hq => ?_
        have hq := (e1.trans e2) _ _ hq
        have q1 : q ≠ d1 := ne_of_none hq n1
        have q2 : q ≠ a := ne_of_none hq ha
        rw [upd_ne q1, del_ne q2, upd_ne q1, upd_ne q1, upd_ne q2, upd_ne q1, upd_ne q2]
        exact hq
    refine ⟨_, rfl, cmp_tm ((ht2.1.ex e1).ex e2) ((he.1.ex e1).ex e2) ht2.2.2.1 ht2.2.2.2 he.2.2.1 he.2.2.2 (fun _ _ => rfl) fun H3 e3 => ⟨_, rfl, ite2 (fun h3 => ?_) (fun h3 => ?_)⟩⟩
    · refine ⟨_, rfl, _, rfl, _, rfl, (by show 3 ≤ 1000; decide), fun a ha => ⟨a, _, _, _, rfl, upd_same, .int _, plainT T (hb.1.ex (Ex.trans ((e1.trans e2).trans e3) (Ex.new ha))), plainT T (he.1.ex (Ex.trans ((e1.trans e2).trans e3) (Ex.new ha))), fun d1 n1 n2 => ⟨rfl, d1, _, ?_, upd_same, ?_, ?_⟩⟩⟩
      · rw [upd_ne n2.symm, upd_ne n2.symm, upd_same]
      · rw [upd_ne n2] at n1
        exact n1
      · rw [upd_ne n2] at n1
        refine kE (fun z => by rw [show gLe (m.t.1 * m.e.2) (m.e.1 * m.t.2) = true from decide_eq_true (show m.t.1 * m.e.2 ≤ m.e.1 * m.t.2 from z.2.2)] at h3; cases h3) d1 _ _ (lkt (by decide +kernel) (lkt (by decide +kernel) lkh)) (lkt (by decide +kernel) lkh) lkh upd_same fun q o hq => ?_
        have hq := ((e1.trans e2).trans e3) _ _ hq
        have q1 : q ≠ d1 := ne_of_none hq n1
        have q2 : q ≠ a := ne_of_none hq ha
        rw [upd_ne q1, del_ne q2, upd_ne q1, upd_ne q1, upd_ne q2, upd_ne q1, upd_ne q2]
        exact hq
    have EX : Ex H H3 := (e1.trans e2).trans e3
    have hok : m.ok := ⟨(of_decide_eq_true h1 : m.b.1 * m.s.2 ≤ m.s.1 * m.b.2), (of_decide_eq_true h2 : m.s.1 * m.t.2 < m.t.1 * m.s.2), Classical.byContradiction fun z => h3 (by rw [show gLe (m.t.1 * m.e.2) (m.e.1 * m.t.2) = false from decide_eq_false (show ¬ m.t.1 * m.e.2 ≤ m.e.1 * m.t.2 from z)]; rfl)⟩
    have K := KpP.ex (KpP.refl (p := p)) EX
    have g := EX _ _ hp
    have tb := hb.1.ex EX
    have te := he.1.ex EX
    have ts := hs2.1.ex EX
    have tt := ht2.1.ex EX
    clear e1 e2 e3 EX
    have nt : ([] : List (Str × V)).lookup ("top" : Str) = none := rfl
    refine ⟨_, rfl, _, rfl, p, CM, dx, [], rfl, g, TK.cl, TK.aT, (by show 0 < 1000; decide), ?_⟩
    have tb := tb.kp g nt (KpP.refl.upd (o := .ins CM dx (putF "tone" (.int m.n) [])))
    have te := te.kp g nt (KpP.refl.upd (o := .ins CM dx (putF "tone" (.int m.n) [])))
    have ts := ts.kp g nt (KpP.refl.upd (o := .ins CM dx (putF "tone" (.int m.n) [])))
    have tt := tt.kp g nt (KpP.refl.upd (o := .ins CM dx (putF "tone" (.int m.n) [])))
    have K := K.upd (o := .ins CM dx (putF "tone" (.int m.n) []))
    have nt : ((putF "tone" (.int m.n) []) : List (Str × V)).lookup ("top" : Str) = none := np (by decide +kernel) nt
    clear g
    refine ⟨_, rfl, xb, m.b.1, m.b.2, rfl, tb, hb.2.2.1.mono (by decide), fun vb Hb e1 mb => ?_⟩
    have K := K.ex e1
    have g := e1 _ _ upd_same
    have te := te.ex e1
    have ts := ts.ex e1
    have tt := tt.ex e1
    refine ⟨_, rfl, p, CM, dx, _, rfl, g, TK.cl, TK.aB, (by show 1 < 1000; decide), ?_⟩
    have te := te.kp g nt (KpP.refl.upd (o := .ins CM dx (putF "begin" vb (putF "tone" (.int m.n) []))))
    have ts := ts.kp g nt (KpP.refl.upd (o := .ins CM dx (putF "begin" vb (putF "tone" (.int m.n) []))))
    have tt := tt.kp g nt (KpP.refl.upd (o := .ins CM dx (putF "begin" vb (putF "tone" (.int m.n) []))))
    have mb := mb.kp g nt (KpP.refl.upd (o := .ins CM dx (putF "begin" vb (putF "tone" (.int m.n) []))))
    have K := K.upd (o := .ins CM dx (putF "begin" vb (putF "tone" (.int m.n) [])))
    have nt : ((putF "begin" vb (putF "tone" (.int m.n) [])) : List (Str × V)).lookup ("top" : Str) = none := np (by decide +kernel) nt
    clear g
    refine ⟨_, rfl, xe, m.e.1, m.e.2, rfl, te, he.2.2.1.mono (by decide), fun ve He e1 me => ?_⟩
    have K := K.ex e1
    have g := e1 _ _ upd_same
    have ts := ts.ex e1
    have tt := tt.ex e1
    have mb := mb.ex e1
    refine ⟨_, rfl, p, CM, dx, _, rfl, g, TK.cl, TK.aE, (by show 2 < 1000; decide), ?_⟩
    have ts := ts.kp g nt (KpP.refl.upd (o := .ins CM dx (putF "end" ve (putF "begin" vb (putF "tone" (.int m.n) [])))))
    have tt := tt.kp g nt (KpP.refl.upd (o := .ins CM dx (putF "end" ve (putF "begin" vb (putF "tone" (.int m.n) [])))))
    have mb := mb.kp g nt (KpP.refl.upd (o := .ins CM dx (putF "end" ve (putF "begin" vb (putF "tone" (.int m.n) [])))))
    have me := me.kp g nt (KpP.refl.upd (o := .ins CM dx (putF "end" ve (putF "begin" vb (putF "tone" (.int m.n) [])))))
    have K := K.upd (o := .ins CM dx (putF "end" ve (putF "begin" vb (putF "tone" (.int m.n) []))))
    have nt : ((putF "end" ve (putF "begin" vb (putF "tone" (.int m.n) []))) : List (Str × V)).lookup ("top" : Str) = none := np (by decide +kernel) nt
    clear g
    refine ⟨_, rfl, ys, m.s.1, m.s.2, rfl, ts, hs2.2.2.1.mono (by decide), fun vs Hs e1 ms => ?_⟩
    have K := K.ex e1
    have g := e1 _ _ upd_same
    have tt := tt.ex e1
    have mb := mb.ex e1
    have me := me.ex e1
    refine ⟨_, rfl, p, CM, dx, _, rfl, g, TK.cl, TK.aS, (by show 3 < 1000; decide), ?_⟩
    have tt := tt.kp g nt (KpP.refl.upd (o := .ins CM dx (putF "start" vs (putF "end" ve (putF "begin" vb (putF "tone" (.int m.n) []))))))
    have mb := mb.kp g nt (KpP.refl.upd (o := .ins CM dx (putF "start" vs (putF "end" ve (putF "begin" vb (putF "tone" (.int m.n) []))))))
    have me := me.kp g nt (KpP.refl.upd (o := .ins CM dx (putF "start" vs (putF "end" ve (putF "begin" vb (putF "tone" (.int m.n) []))))))
    have ms := ms.kp g nt (KpP.refl.upd (o := .ins CM dx (putF "start" vs (putF "end" ve (putF "begin" vb (putF "tone" (.int m.n) []))))))
    have K := K.upd (o := .ins CM dx (putF "start" vs (putF "end" ve (putF "begin" vb (putF "tone" (.int m.n) [])))))
    have nt : ((putF "start" vs (putF "end" ve (putF "begin" vb (putF "tone" (.int m.n) [])))) : List (Str × V)).lookup ("top" : Str) = none := np (by decide +kernel) nt
    clear g
    refine ⟨_, rfl, yt, m.t.1, m.t.2, rfl, tt, ht2.2.2.1.mono (by decide), fun vt Ht e1 mt => ?_⟩
    have K := K.ex e1
    have g := e1 _ _ upd_same
    have mb := mb.ex e1
    have me := me.ex e1
    have ms := ms.ex e1
    refine ⟨_, rfl, p, CM, dx, _, rfl, g, TK.cl, TK.aP, (by show 4 < 1000; decide), ?_⟩
    have mb := mb.kp g nt (KpP.refl.upd (o := .ins CM dx (putF "stop" vt (putF "start" vs (putF "end" ve (putF "begin" vb (putF "tone" (.int m.n) [])))))))
    have me := me.kp g nt (KpP.refl.upd (o := .ins CM dx (putF "stop" vt (putF "start" vs (putF "end" ve (putF "begin" vb (putF "tone" (.int m.n) [])))))))
    have ms := ms.kp g nt (KpP.refl.upd (o := .ins CM dx (putF "stop" vt (putF "start" vs (putF "end" ve (putF "begin" vb (putF "tone" (.int m.n) [])))))))
    have mt := mt.kp g nt (KpP.refl.upd (o := .ins CM dx (putF "stop" vt (putF "start" vs (putF "end" ve (putF "begin" vb (putF "tone" (.int m.n) [])))))))
    exact kQ hok vb ve vs vt _ K.upd upd_same mb me ms mt
/-- a mark in units of 1/U: the row start, stop, begin, end, tone -/
def MrU (CM C : Addr) (U : Int) (r : Row) (v : V) (H : Hp) : Prop := ∃ (s p b e k : Int) (a dx : Addr) (xs xp xb xe : V), r = [s, p, b, e, k] ∧ v = .ref a ∧ H a = some (.ins CM dx (kF k xb xe xs xp)) ∧ MU C U s xs H ∧ MU C U p xp H ∧ MU C U b xb H ∧ MU C U e xe H
theorem MrU.ex {CM : Addr} {U : Int} {r : Row} {v : V} {H H' : Hp} (h : MrU CM C U r v H) (x : Ex H H') : MrU CM C U r v H' := by
  obtain ⟨s, p, b, e, k, a, dx, xs, xp, xb, xe, rfl, rfl, ha, h1, h2, h3, h4⟩ := h
  exact ⟨s, p, b, e, k, a, dx, xs, xp, xb, xe, rfl, rfl, x _ _ ha, h1.ex x, h2.ex x, h3.ex x, h4.ex x⟩
theorem MrU.st {CM : Addr} {U : Int} {r : Row} {v : V} {H H' : Hp} (h : MrU CM C U r v H) (x : St H H') : MrU CM C U r v H' := by
  obtain ⟨s, p, b, e, k, a, dx, xs, xp, xb, xe, rfl, rfl, ha, h1, h2, h3, h4⟩ := h
  exact ⟨s, p, b, e, k, a, dx, xs, xp, xb, xe, rfl, rfl, x _ _ ha (.inl ⟨_, _, _, rfl⟩), h1.st x, h2.st x, h3.st x, h4.st x⟩
abbrev sRo2 : Stmt := top 62
theorem scRo2 : FnScope ["marks", "mark"] ["marks"] (defScope sRo2) := ⟨rfl, rfl, rfl, by decide +kernel, rfl, by decide +kernel, by decide +kernel⟩
def spRo2 (CM C : Addr) : Sp := fun vs H Q _ => ∃ (U : Int) (a : Addr) (xs : List V) (L : List Row), vs = [.ref a] ∧ H a = some (.lst xs) ∧ Al (MrU CM C U) H L xs ∧ L.length ≤ 500000 ∧ ∀ (p : Addr) (zs : List V) (H' : Hp), Ex H H' → H' p = some (.lst zs) → RsU C U ks5 L zs H' → Q (.ref p) H'
theorem ok_rows_of {CM CK fK f : Addr} {fd : FuncData} (F : Fun K "rows_of" "rows_of" sRo2 f fd) (TK : TxtK K mg CM CK fK) : FnOk P w K mg base CX0 1 f fd ["marks"] (spRo2 CM C) := by
  refine F.ok scRo2 (fun vs H Q E h => ?_) (fun cdv A outer s H vs Q E hr h => ?_)
  · obtain ⟨U, a, xs, L, rfl, _⟩ := h
    rfl
  · obtain ⟨U, a, xs, L, rfl, ha, hx, hlen, k⟩ := h
    have lx := hx.len
    refine ⟨_, (pss_one (ps_ret (pe_lc (own := [("mark", 1)]) rfl scRo2.nd (pi_list (pv 0)) (blkOk_by (N := ["marks", "mark"]) (sc := defScope sRo2) (by decide +kernel)) (fun _ _ _ _ _ => pg_name (i := 1) scRo2.nd rfl (Or.inl rfl)) (fun _ _ _ _ _ => pts_nil) (fun _ _ _ _ _ => (pe_tup (pa_cons (show PE _ _ (tFld K _ _) from (pe_fld (pv 1) rfl)) (pa_cons (show PE _ _ (tFld K _ _) from (pe_fld (pv 1) rfl)) (pa_cons (show PE _ _ (tFld K _ _) from (pe_fld (pv 1) rfl)) (pa_cons (show PE _ _ (tFld K _ _) from (pe_fld (pv 1) rfl)) (pa_cons (show PE _ _ (tFld K _ _) from (pe_fld (pv 1) rfl)) pa_nil)))))))))), ?_⟩
    refine ⟨_, rfl, a, rfl, ⟨_, SqL.of ha⟩, fun D hD => lc_list (xs := xs) (fun j H' => Ex H H' ∧ ∃ ys, H' D = some (.lst ys) ∧ RsU C U ks5 (L.take j) ys H') ⟨Ex.new hD, [], upd_same, .nil⟩ (fun j H' _ z => SqL.of (z.1 _ _ ha)) ?_ ?_⟩
    · rintro j y H1 hj ⟨e1, ys, hy, hry⟩
      obtain ⟨r, hr1, hr2⟩ := hx.getV hj
      have tk : L.take (j + 1) = L.take j ++ [r] := by
        rw [List.take_succ, hr1]
        rfl
      obtain ⟨s0, p0, b0, e0, k0, q, dx, xs0, xp0, xb0, xe0, rfl, rfl, hq, n1, n2, n3, n4⟩ := hr2.ex e1
      have ly := hry.len
      rw [List.length_take] at ly
      refine ⟨rfl, _, rfl, q, CM, dx, _, _, rfl, hq, TK.cl, TK.aS, kf_start, _, rfl, q, CM, dx, _, _, rfl, hq, TK.cl, TK.aP, kf_stop, _, rfl, q, CM, dx, _, _, rfl, hq, TK.cl, TK.aB, kf_begin, _, rfl, q, CM, dx, _, _, rfl, hq, TK.cl, TK.aE, kf_end, _, rfl, q, CM, dx, _, _, rfl, hq, TK.cl, TK.aT, kf_tone, by show 5 ≤ sizeLine; decide, fun z hz => ?_⟩
      have ez : Ex H1 (upd H1 z (.tup [xs0, xp0, xb0, xe0, .int k0])) := Ex.new hz
      have hy2 := ez _ _ hy
      have s9 := St.lst (o := .lst (ys ++ [V.ref z])) hy2
      have S := (St.of ez).trans s9
      refine ⟨_, hy2, line_lt (by omega), Evl.Ex.mut (e1.trans ez) hD, _, upd_same, ?_⟩
      rw [tk]
      exact (RsU.st (ks := ks5) hry S).snoc ⟨z, _, rfl, by rw [upd_ne (ne_of_none hy hz).symm]; exact upd_same, its5_mk (n1.st S) (n2.st S) (n3.st S) (n4.st S)⟩
    · rintro H1 ⟨e1, ys, hy, hry⟩
      rw [lx, List.take_length] at hry
      exact k D ys H1 e1 hy hry
def psMk : List Str := ["self", "tone", "begin", "end", "start", "stop"]
abbrev FMk (K : PySem.W.Frag) (f : Addr) (fd : FuncData) : Prop := FunD K "__init__" "Mark.__init__" (defArgs sMk) (defBody sMk) (defScope sMk) [] [("start", V.non), ("stop", V.non)] f fd
theorem mk_k3 {f : Addr} {fd : FuncData} (F : FMk K f fd) : ∃ mv : List Value, KBn K fd psMk 4 ["start", "stop"] (fun us ws => us ++ ws) (fun vs zs => vs ++ zs) := F.kbinds0 4 ["start", "stop"] [] (fun us _ ws => us ++ ws) (by simp) (by simp) (fun h1 h2 h3 => h1.append h3) fun D doc pm an cdv ct us mv ws h1 h2 h3 => match us, h1, mv, h2, ws, h3 with | [_, _, _, _], _, [], _, [_, _], _ => rfl
abbrev sMo2 : Stmt := top 63
theorem scMo2 : FnScope ["rows", "start", "stop", "begin", "end", "tone"] ["rows"] (defScope sMo2) := ⟨rfl, rfl, rfl, by decide +kernel, rfl, by decide +kernel, by decide +kernel⟩
def rowOk (r : Row) : Prop := r.getD 2 0 ≤ r.getD 0 0 ∧ r.getD 0 0 < r.getD 1 0 ∧ r.getD 1 0 ≤ r.getD 3 0
def spMo2 (CM C : Addr) : Sp := fun vs H Q _ => ∃ (U : Int) (a : Addr) (xs : List V) (L : List Row), vs = [.ref a] ∧ Un U ∧ H a = some (.lst xs) ∧ RsU C U ks5 L xs H ∧ (∀ r ∈ L, rowOk r) ∧ L.length ≤ 500000 ∧ ∀ (p : Addr) (zs : List V) (H' : Hp), Ex H H' → H p = none → H' p = some (.lst zs) → Al (MrU CM C U) H' L zs → Q (.ref p) H'
theorem MU.ft {U n : Int} {v : V} {H : Hp} (hU : Un U) (h : MU C U n v H) : FT C (nt U n, nb U n) v H := by
  obtain ⟨⟨t, b, N, m⟩, s⟩ := h
  obtain ⟨rfl, rfl⟩ := norm_n hU.pos N
  have z := sz hU N s
  exact ⟨.inl m, N.pos, z.1, z.2⟩
theorem MU.of_mo {U n : Int} {v : V} {H : Hp} (hU : Un U) (s : Sm 390 n) (h : Mo C (nt U n) (nb U n) v H) : MU C U n v H := ⟨⟨_, _, norm_mk (Int.ne_of_gt hU.pos), h⟩, s⟩
theorem fle_of {U n m : Int} (hU : 0 < U) (h : n ≤ m) : FLe (nt U n, nb U n) (nt U m, nb U m) := by
  have z := norm_lt (norm_mk (n := m) (Int.ne_of_gt hU)) (norm_mk (n := n) (Int.ne_of_gt hU)) hU
  exact Int.not_lt.mp fun w => by
    have := z.mp w
    omega
theorem flt_of {U n m : Int} (hU : 0 < U) (h : n < m) : FLt (nt U n, nb U n) (nt U m, nb U m) := (norm_lt (norm_mk (n := n) (Int.ne_of_gt hU)) (norm_mk (n := m) (Int.ne_of_gt hU)) hU).mpr h
theorem mark_rdU {CM CK : Addr} {U s p b e k : Int} {xs xp xb xe : V} {H0 : Hp} {Q : VK} {E : XK} (hU : Un U) (h1 : MU C U s xs H0) (h2 : MU C U p xp H0) (h3 : MU C U b xb H0) (h4 : MU C U e xe H0) (o1 : b ≤ s) (o2 : s < p) (o3 : p ≤ e)
    {x dx : Addr} (f1 : H0 x = none) (f2 : H0 dx = none) (f3 : dx ≠ x) (kQ : ∀ (H' : Hp), Ex H0 H' → MrU CM C U [s, p, b, e, k] (.ref x) H' → Q .non H') : spMark CM C CK [.ref x, .int k, xb, xe, xs, xp] (upd (upd H0 dx (.own x)) x (.ins CM dx [])) Q E := by
  have e0 : Ex H0 (upd (upd H0 dx (.own x)) x (.ins CM dx [])) := fun q o h => by
    rw [upd_ne (ne_of_none h f1), upd_ne (ne_of_none h f2)]
    exact h
  refine ⟨x, dx, ⟨k, (nt U b, nb U b), (nt U e, nb U e), (nt U s, nb U s), (nt U p, nb U p)⟩, xb, xe, xs, xp, rfl, upd_same, (h3.ft hU).ex e0, (h4.ft hU).ex e0, .inr ((h1.ft hU).ex e0), .inr ((h2.ft hU).ex e0), fun no => absurd ⟨fle_of hU.pos o1, flt_of hU.pos o2, fle_of hU.pos o3⟩ no, fun _ yb ye ys yt H' kp hp mb me ms mt => ?_⟩
  exact kQ H' (fun q o h => kp q o (e0 _ _ h) (ne_of_none h f1)) ⟨s, p, b, e, k, x, dx, ys, yt, yb, ye, rfl, rfl, hp, .of_mo hU h1.2 ms, .of_mo hU h2.2 mt, .of_mo hU h3.2 mb, .of_mo hU h4.2 me⟩
theorem ok_marks_of {CM CK fK fM f : Addr} {fd fdM : FuncData} (F : Fun K "marks_of" "marks_of" sMo2 f fd) (TK : TxtK K mg CM CK fK) (MkM : Mk K CM fM) (GM : FnOk P w K mg base (L2.CX P w) 9 fM fdM psMk (spMark CM C CK)) (FM : FMk K fM fdM) : FnOk P w K mg base CX0 11 f fd ["rows"] (spMo2 CM C) := by
  obtain ⟨mv3, bM3⟩ := mk_k3 FM
  refine F.ok scMo2 (fun vs H Q E h => ?_) (fun cdv A outer s H vs Q E hr h => ?_)
  · obtain ⟨U, a, xs, L, rfl, _⟩ := h
    rfl
  · obtain ⟨U, a, xs, L, rfl, hU, ha, hx, hok, hlen, k⟩ := h
    have lx := hx.len
    have h10 : Room 10 _ := hr
    refine ⟨_, (pss_one (ps_ret (pe_lc (own := [("start", 1), ("stop", 2), ("begin", 3), ("end", 4), ("tone", 5)]) rfl scMo2.nd (pi_list (pv 0)) (blkOk_by (N := ["rows", "start", "stop", "begin", "end", "tone"]) (sc := defScope sMo2) (by decide +kernel)) (fun _ _ _ _ _ => (show PG _ _ (gTup K 5 _) from pg_tup rfl (pgs_cons (pg_name (i := 1) scMo2.nd rfl (Or.inl rfl)) (pgs_cons (pg_name (i := 2) scMo2.nd rfl (Or.inl rfl)) (pgs_cons (pg_name (i := 3) scMo2.nd rfl (Or.inl rfl)) (pgs_cons (pg_name (i := 4) scMo2.nd rfl (Or.inl rfl)) (pgs_cons (pg_name (i := 5) scMo2.nd rfl (Or.inl rfl)) pgs_nil))))))) (fun _ _ _ _ _ => pts_nil) (fun _ _ _ _ _ => (pe_makeK (E := E0) MkM GM h10 rfl TK.mgM bM3 passL (pa_cons (pv 5) (pa_cons (pv 3) (pa_cons (pv 4) pa_nil))) (pk_cons (pv 1) (pk_cons (pv 2) pk_nil))))))), ?_⟩
    refine ⟨_, rfl, a, rfl, ⟨_, SqL.of ha⟩, fun D hD => lc_list (xs := xs) (fun j H' => Ex H H' ∧ ∃ ys, H' D = some (.lst ys) ∧ Al (MrU CM C U) H' (L.take j) ys) ⟨Ex.new hD, [], upd_same, .nil⟩ (fun j H' _ z => SqL.of (z.1 _ _ ha)) ?_ ?_⟩
    · rintro j y H1 hj ⟨e1, ys, hy, hry⟩
      obtain ⟨r, hr1, hr2⟩ := hx.getV hj
      have tk : L.take (j + 1) = L.take j ++ [r] := by
        rw [List.take_succ, hr1]
        rfl
      have ro := hok r (List.mem_of_getElem? hr1)
      obtain ⟨s0, p0, b0, e0, k0, rfl, q, xs0, xp0, xb0, xe0, rfl, hq, n1, n2, n3, n4⟩ := row5 (hr2.ex e1)
      obtain ⟨o1, o2, o3⟩ := ro
      have ly := hry.len
      rw [List.length_take] at ly
      refine ⟨q, _, rfl, SqT.of hq, rfl, _, _, rfl, _, _, rfl, _, _, rfl, _, _, rfl, _, _, rfl, rfl, ?_⟩
      simp only [wipe, L2.start, List.map_cons, List.map_nil, List.length_cons, List.length_nil, Nat.reduceAdd, Nat.reduceSub, List.replicate_succ, List.replicate_zero, List.cons_append, List.nil_append, List.set_cons_zero, List.set_cons_succ]
      refine ⟨trivial, _, rfl, _, rfl, _, rfl, ?_⟩
      refine ⟨_, rfl, _, rfl, rfl, rfl, ?_⟩
      intro x dx f1 f2 f3
      refine mark_rdU (CM := CM) (CK := CK) (k := k0) hU n1 n2 n3 n4 o1 o2 o3 f1 f2 f3 fun H2 e2 mk => ⟨rfl, ?_⟩
      have hy2 := e2 _ _ hy
      have s9 := St.lst (o := .lst (ys ++ [V.ref x])) hy2
      have S := (St.of e2).trans s9
      refine ⟨_, hy2, line_lt (by omega), Evl.Ex.mut (e1.trans e2) hD, _, upd_same, ?_⟩
      rw [tk]
      exact (hry.map fun r v h => h.st S).snoc (mk.st s9)
    · rintro H1 ⟨e1, ys, hy, hry⟩
      rw [lx, List.take_length] at hry
      exact k D ys H1 e1 hD hy hry
section
variable {U n m : Int} {x y : V} {H : Hp} {Q : VK} {E : XK}
theorem eq_rd (hU : Un U) (hx : MU C U n x H) (hy : MU C U m y H) (k : ∀ H' : Hp, Ex H H' → Q (.bl (decide (n = m))) H') : rCmp C (spEq2 C) E x y H Q := by
  obtain ⟨⟨t, b, N, mx⟩, sx⟩ := hx
  obtain ⟨⟨t', b', N', my⟩, sy⟩ := hy
  refine ⟨mx.isC, my.par, x, y, t, b, rfl, mx, .inl ⟨t', b', my, fun c H' e hc => ?_⟩⟩
  rw [show c = decide (n = m) by rw [Bool.eq_iff_iff, decide_eq_true_eq]; exact hc.trans (norm_eq N N' hU.pos)]
  exact k H' e
theorem ne_rd (hU : Un U) (hx : MU C U n x H) (hy : MU C U m y H) (k : ∀ H' : Hp, Ex H H' → Q (.bl (!decide (n = m))) H') : rNeO C (spEq2 C) E x y H Q := by
  obtain ⟨h1, h2, h3⟩ := eq_rd (Q := fun v H' => ∃ c, v = .bl c ∧ Q (.bl (!c)) H') (E := E) hU hx hy fun H' e => ⟨_, rfl, k H' e⟩
  exact ⟨h1, h2, h3⟩
/-- a time is the int i -/
theorem eqi_rd {i : Int} (hU : Un U) (hx : MU C U n x H) (k : ∀ H' : Hp, Ex H H' → Q (.bl (decide (n = i * U))) H') : rCmp C (spEq2 C) E x (.int i) H Q := by
  obtain ⟨⟨t, b, N, mx⟩, sx⟩ := hx
  refine ⟨mx.isC, .int i, x, .int i, t, b, rfl, mx, .inr (.inl ⟨i, rfl, fun c H' e hc => ?_⟩)⟩
  have : (b = 1 ∧ t = i) ↔ n = i * U := by
    have h1 := N.eq
    constructor
    · rintro ⟨rfl, rfl⟩
      omega
    · intro hn
      have N1 : Norm n U i 1 := norm_of hU.pos ⟨by decide, by simp⟩ (by rw [hn, Int.mul_one])
      obtain ⟨a, b⟩ := (norm_eq N N1 hU.pos).mpr rfl
      exact ⟨b, a⟩
  rw [show c = decide (n = i * U) by rw [Bool.eq_iff_iff, decide_eq_true_eq]; exact hc.trans this]
  exact k H' e
theorem mod_rd (hU : Un U) (hx : MU C U n x H) (hy : TU C U m y H) (hm : m ≠ 0) (s : Sm 390 (n - n.fdiv m * m)) (k : ∀ (v : V) (H' : Hp), Ex H H' → MU C U (n - n.fdiv m * m) v H' → Q v H') : rOwn C (spMod C) E x y H Q := by
  obtain ⟨⟨t, b, N, mx⟩, sx⟩ := hx
  obtain ⟨⟨t', b', N', my⟩, sy⟩ := hy
  exact ⟨mx.isC, my.op, x, y, t, b, t', b', rfl, mx, my, N.pos, N'.pos, (N.st sx).mono (by decide), (N.sb hU.sm).mono (by decide), (N'.st sy).mono (by decide), (N'.sb hU.sm).mono (by decide), fun z => absurd ((norm_zero N' hU.pos).mp z) hm, fun _ t2 b2 v H' r e _ _ ex mv => k v H' ex ⟨⟨t2, b2, norm_rest N N' hU.pos r e, mv⟩, s⟩⟩
end
abbrev sCv : Stmt := top 100
theorem scCv : FnScope ["own", "mark", "rounds", "shift"] ["own", "mark", "rounds"] (defScope sCv) := ⟨rfl, rfl, rfl, by decide +kernel, rfl, by decide +kernel, by decide +kernel⟩
/-- one part covers a mark: S = rounds * U -/
def covB (S : Int) (o m : Row) : Bool := decide (o.getD 4 0 = m.getD 4 0) && decide (o.getD 3 0 - o.getD 2 0 = m.getD 3 0 - m.getD 2 0) && decide ((m.getD 2 0 - o.getD 2 0) % S = 0) && decide (o.getD 0 0 + (m.getD 2 0 - o.getD 2 0) ≤ m.getD 0 0) && decide (m.getD 1 0 ≤ o.getD 1 0 + (m.getD 2 0 - o.getD 2 0))
def spCv (CM C : Addr) : Sp := fun vs H Q _ => ∃ (U z : Int) (x y : V) (o m : Row), vs = [x, y, .int z] ∧ Un U ∧ MrU CM C U o x H ∧ MrU CM C U m y H ∧ 0 < z ∧ Sm 380 (z * U) ∧ SmR 385 o ∧ SmR 385 m ∧ ∀ H', Ex H H' → Q (.bl (covB (z * U) o m)) H'
theorem ok_covers {CM CK fK f : Addr} {fd : FuncData} (F : Fun K "_covers" "_covers" sCv f fd) (M : MoE P w K mg base C CN) (TK : TxtK K mg CM CK fK) : FnOk P w K mg base CX0 9 f fd ["own", "mark", "rounds"] (spCv CM C) := by
  have T := M.T
  refine F.ok scCv (fun vs H Q E h => ?_) (fun cdv A outer s H vs Q E hr h => ?_)
  · obtain ⟨U, z, x, y, o, m, rfl, _⟩ := h
    rfl
  · obtain ⟨U, z, x, y, o, m, rfl, hU, ho, hm, hz, sS, so, sm, k⟩ := h
    let X := (cxOf CX0 P w K mg base ["own", "mark", "rounds", "shift"] "_covers" (defScope sCv) f cdv A outer s H E).nox
    have oAdd := MoE.oAdd (X := X) M (hr.mono (by decide))
    have oSub := MoE.oSub (X := X) M (hr.mono (by decide))
    have oMod := MoE.oMod (X := X) M (hr.mono (by decide))
    have oLe := MoE.oLe (X := X) M (hr.mono (by decide))
    have oEq := MoE.oEq (X := X) M (hr.mono (by decide))
    have oNe := MoE.oNe (X := X) M (hr.mono (by decide))
    obtain ⟨s1, p1, b1, e1, k1, a1, d1, xs1, xp1, xb1, xe1, rfl, rfl, h1, n1, n2, n3, n4⟩ := ho
    obtain ⟨s2, p2, b2, e2, k2, a2, d2, xs2, xp2, xb2, xe2, rfl, rfl, h2, q1, q2, q3, q4⟩ := hm
    have ss1 : Sm 385 s1 := so s1 (by simp)
    have sp1 : Sm 385 p1 := so p1 (by simp)
    have sb1 : Sm 385 b1 := so b1 (by simp)
    have se1 : Sm 385 e1 := so e1 (by simp)
    have sb2 : Sm 385 b2 := sm b2 (by simp)
    have se2 : Sm 385 e2 := sm e2 (by simp)
    have pS : 0 < z * U := Int.mul_pos hz hU.pos
    refine ⟨_, (pss_cons (ps_if (PW.pt (pw_or (pt_cmpR op_ne (pe_fld (pv 0) rfl) (pe_fld (pv 1) rfl) (nomark _)) (pw_or1 (pt_cmpR oNe (pe_op oSub (pe_fld (pv 0) rfl) (pe_fld (pv 0) rfl)) (pe_op oSub (pe_fld (pv 1) rfl) (pe_fld (pv 1) rfl)) (nomark _))))) (pss_one (ps_ret pe_bl)) pss_nil)
 (pss_cons (ps_set (i := 3) scCv.nd rfl (Or.inl rfl) (pe_op oSub (pe_fld (pv 1) rfl) (pe_fld (pv 0) rfl)))
 (pss_one (ps_ret (pe_and (pe_cmpR oEq (pe_op oMod (pv 3) (pv 2)) pe_int (nomark _)) (pe_and (pe_cmpR oLe (pe_op oAdd (pe_fld (pv 0) rfl) (pv 3)) (pe_fld (pv 1) rfl) (nomark _)) (pe_one (pe_cmpR oLe (pe_fld (pv 1) rfl) (pe_op oAdd (pe_fld (pv 0) rfl) (pv 3)) (nomark _))))))))), ?_⟩
    refine ⟨_, rfl, a1, CM, d1, _, _, rfl, h1, TK.cl, TK.aT, kf_tone, _, rfl, a2, CM, d2, _, _, rfl, h2, TK.cl, TK.aT, kf_tone, rfl, _, rfl, ite2 (fun c1 => ?_) (fun c1 => ?_)⟩
    · have hk : ¬ k1 = k2 := fun w => by
        rw [w] at c1
        simp at c1
      refine iteT ?_
      have := k H (Ex.refl _)
      unfold covB at this
      rw [show decide (([s1, p1, b1, e1, k1] : List Int).getD 4 0 = ([s2, p2, b2, e2, k2] : List Int).getD 4 0) = false from decide_eq_false hk] at this
      exact this
    have hk : k1 = k2 := by
      have w := Bool.eq_false_iff.mpr c1
      simp at w
      exact w
    subst hk
    refine ⟨_, rfl, a1, CM, d1, _, _, rfl, h1, TK.cl, TK.aE, kf_end, _, rfl, a1, CM, d1, _, _, rfl, h1, TK.cl, TK.aB, kf_begin, sub_rd hU n4 n3.tu ((se1.sub sb1).mono (by decide)) fun v1 H1 x1 m1 => ?_⟩
    refine ⟨_, rfl, a2, CM, d2, _, _, rfl, x1 _ _ h2, TK.cl, TK.aE, kf_end, _, rfl, a2, CM, d2, _, _, rfl, x1 _ _ h2, TK.cl, TK.aB, kf_begin, sub_rd hU (q4.ex x1) (q3.ex x1).tu ((se2.sub sb2).mono (by decide)) fun v2 H2 x2 m2 => ne_rd hU (m1.ex x2) m2 fun H3 x3 => ⟨_, rfl, ite2 (fun c2 => ?_) (fun c2 => ?_)⟩⟩
    · have hl : ¬ e1 - b1 = e2 - b2 := fun w => by
        rw [w] at c2
        simp at c2
      have := k H3 (x1.trans (x2.trans x3))
      unfold covB at this
      rw [show decide (([s1, p1, b1, e1, k1] : List Int).getD 3 0 - ([s1, p1, b1, e1, k1] : List Int).getD 2 0 = ([s2, p2, b2, e2, k1] : List Int).getD 3 0 - ([s2, p2, b2, e2, k1] : List Int).getD 2 0) = false from decide_eq_false hl, Bool.and_false] at this
      exact this
    have hl : e1 - b1 = e2 - b2 := by
      have w := Bool.eq_false_iff.mpr c2
      simp at w
      exact w
    have X3 := x1.trans (x2.trans x3)
    have cv : covB (z * U) [s1, p1, b1, e1, k1] [s2, p2, b2, e2, k1] = (decide ((b2 - b1) % (z * U) = 0) && decide (s1 + (b2 - b1) ≤ s2) && decide (p2 ≤ p1 + (b2 - b1))) := by
      unfold covB
      show (decide (k1 = k1) && decide (e1 - b1 = e2 - b2) && _ && _ && _) = _
      rw [decide_eq_true rfl, decide_eq_true hl, Bool.true_and, Bool.true_and]
      rfl
    rw [cv] at k
    have ssh := sb2.sub sb1
    generalize hsh : b2 - b1 = sh at *
    refine ⟨_, rfl, a2, CM, d2, _, _, rfl, X3 _ _ h2, TK.cl, TK.aB, kf_begin, _, rfl, a1, CM, d1, _, _, rfl, X3 _ _ h1, TK.cl, TK.aB, kf_begin, sub_rd hU (q3.ex X3) (n3.ex X3).tu (by rw [hsh]; exact ssh.mono (by decide)) fun v4 H4 x4 m4 => ?_⟩
    rw [hsh] at m4
    have X4 := X3.trans x4
    have eM : sh - sh.fdiv (z * U) * (z * U) = sh % (z * U) := by
      rw [Int.fdiv_eq_ediv_of_nonneg _ (Int.le_of_lt pS), Int.mul_comm]
      have := Int.emod_add_mul_ediv sh (z * U)
      omega
    have sM : Sm 390 (sh % (z * U)) := by
      refine (sS.mono (by decide)).le ?_
      have w1 := Int.emod_nonneg sh (Int.ne_of_gt pS)
      have w2 := Int.emod_lt_of_pos sh pS
      omega
    refine ⟨_, rfl, _, rfl, mod_rd hU m4 (tu_int hU (sS.mono (by decide))) (Int.ne_of_gt pS) (by rw [eM]; exact sM) fun v5 H5 x5 m5 => ?_⟩
    rw [eM] at m5
    refine eqi_rd (i := 0) hU m5 fun H6 x6 => ⟨_, rfl, ?_⟩
    rw [Int.zero_mul]
    have X6 := X4.trans (x5.trans x6)
    refine ite2 (fun c3 => ?_) (fun c3 => ?_)
    · rw [c3, Bool.true_and] at k
      have m6 := m4.ex (x5.trans x6)
      refine ⟨_, rfl, a1, CM, d1, _, _, rfl, X6 _ _ h1, TK.cl, TK.aS, kf_start, _, rfl, add_rd hU (n1.ex X6) m6.tu (((ss1.mono (by decide)).add ssh).mono (by decide)) fun v7 H7 x7 m7 => ?_⟩
      have X7 := X6.trans x7
      refine ⟨_, rfl, a2, CM, d2, _, _, rfl, X7 _ _ h2, TK.cl, TK.aS, kf_start, le_rd hU m7 (q1.ex X7).tu fun H8 x8 => ⟨_, rfl, ite2 (fun c4 => ?_) (fun c4 => ?_)⟩⟩
      · rw [c4, Bool.true_and] at k
        have X8 := X7.trans x8
        refine ⟨_, rfl, a2, CM, d2, _, _, rfl, X8 _ _ h2, TK.cl, TK.aP, kf_stop, _, rfl, a1, CM, d1, _, _, rfl, X8 _ _ h1, TK.cl, TK.aP, kf_stop, _, rfl, add_rd hU (n2.ex X8) ((m6.ex (x7.trans x8))).tu (((sp1.mono (by decide)).add ssh).mono (by decide)) fun v9 H9 x9 m9 => ?_⟩
        exact le_rd hU ((q2.ex X8).ex x9) m9.tu fun HA xA => k HA (X8.trans (x9.trans xA))
      · rw [Bool.eq_false_iff.mpr c4, Bool.false_and] at k
        exact k _ (X7.trans x8)
    · rw [Bool.eq_false_iff.mpr c3, Bool.false_and, Bool.false_and] at k
      exact k _ X6
/-- a tune's fields -/
def tF (r : Int) (m : V) : List (Str × V) := putF "marks" m (putF "rounds" (.int r) [])
theorem tF_look (r : Int) (m : V) (f : Str) : (tF r m).lookup f = if f = "marks" then some m else if f = "rounds" then some (.int r) else none := by
  unfold tF
  rw [lookup_putF, lookup_putF]
  rfl
theorem tF_rounds {r : Int} {m : V} : (tF r m).lookup ("rounds" : Str) = some (.int r) := by rw [tF_look, if_neg (by decide +kernel), if_pos rfl]
theorem tF_marks {r : Int} {m : V} : (tF r m).lookup ("marks" : Str) = some m := by rw [tF_look, if_pos rfl]
structure TxtU (K : PySem.W.Frag) (mg : Str → Option Value) (CT : Addr) : Prop where
  cl : Cls K CT
  aR : NoAttr K CT "rounds"
  aM : NoAttr K CT "marks"
  mgT : mg "Tune" = some (.ref CT)
/-- a tune: rounds, and its marks in units of 1/U -/
def TuA (CT CM C : Addr) (U z : Int) (L : List Row) (v : V) (H : Hp) : Prop := ∃ (a dx pm : Addr) (xs : List V), v = .ref a ∧ H a = some (.ins CT dx (tF z (.ref pm))) ∧ H pm = some (.lst xs) ∧ Al (MrU CM C U) H L xs
theorem TuA.ex {CT CM : Addr} {U z : Int} {L : List Row} {v : V} {H H' : Hp} (h : TuA CT CM C U z L v H) (e : Ex H H') : TuA CT CM C U z L v H' := by
  obtain ⟨a, dx, pm, xs, rfl, h1, h2, h3⟩ := h
  exact ⟨a, dx, pm, xs, rfl, e _ _ h1, e _ _ h2, h3.map fun r v q => q.ex e⟩
abbrev sCo : Stmt := inClass (top 96) 5
theorem scCo : FnScope ["self", "mark", "own"] ["self", "mark"] (defScope sCo) := ⟨rfl, rfl, rfl, by decide +kernel, rfl, by decide +kernel, by decide +kernel⟩
def spCo (CT CM C : Addr) : Sp := fun vs H Q _ => ∃ (U z : Int) (L : List Row) (m : Row) (x y : V), vs = [x, y] ∧ Un U ∧ TuA CT CM C U z L x H ∧ MrU CM C U m y H ∧ 0 < z ∧ Sm 380 (z * U) ∧ (∀ r ∈ L, SmR 385 r) ∧ SmR 385 m ∧ L.length ≤ 500000 ∧ ∀ H', Ex H H' → Q (.bl (L.any fun o => covB (z * U) o m)) H'
theorem ok_contains {CT CM CK fK f : Addr} {fd : FuncData} {tb : Tok} (F : Fun K "__contains__" "Tune.__contains__" sCo f fd) (TU' : TxtU K mg CT) (TX : Tx2 K mg tb) (OC : Ok P w K mg base CX0 9 "_covers" ["own", "mark", "rounds"] (spCv CM C)) : FnOk P w K mg base CX0 10 f fd ["self", "mark"] (spCo CT CM C) := by
  obtain ⟨fCv, fdCv, GCv, mCv, kCv, bCv⟩ := OC
  refine F.ok scCo (fun vs H Q E h => ?_) (fun cdv A outer s H vs Q E hr h => ?_)
  · obtain ⟨U, z, L, m, x, y, rfl, _⟩ := h
    rfl
  · obtain ⟨U, z, L, m, x, y, rfl, hU, hT, hm, hz, sS, sL, sm, hlen, k⟩ := h
    obtain ⟨a, dx, pm, xs, rfl, ha, hpm, hx⟩ := hT
    have h9 : Room 9 _ := hr
    have lx := hx.len
    refine ⟨_, (pss_one (ps_ret (pe_callB (r := rAny K) (cr_any rfl) rfl TX.any PyProof.Rows.boot_any (pa_cons (pe_lc (own := [("own", 2)]) rfl scCo.nd (pi_list (pe_fld (pv 0) rfl)) (blkOk_by (N := ["self", "mark", "own"]) (sc := defScope sCo) (by decide +kernel)) (fun _ _ _ _ _ => pg_name (i := 2) scCo.nd rfl (Or.inl rfl)) (fun _ _ _ _ _ => pts_nil) (fun _ _ _ _ _ => (pe_call GCv h9 rfl mCv kCv bCv .nil pass0 (pa_cons (pv 2) (pa_cons (pv 1) (pa_cons (show PE _ _ (tFld K _ _) from (pe_fld (pv 0) rfl)) pa_nil)))))) pa_nil)))), ?_⟩
    refine ⟨_, rfl, a, CT, dx, _, _, rfl, ha, TU'.cl, TU'.aM, tF_marks, pm, rfl, ⟨_, SqL.of hpm⟩, fun D hD => lc_list (xs := xs) (fun j H' => Ex H H' ∧ H' D = some (.lst (((L.take j).map fun o => covB (z * U) o m).map V.bl))) ⟨Ex.new hD, upd_same⟩ (fun j H' _ q => SqL.of (q.1 _ _ hpm)) ?_ ?_⟩
    · rintro j o H1 hj ⟨e1, hd⟩
      obtain ⟨r, hr1, hr2⟩ := hx.getV hj
      have tk : L.take (j + 1) = L.take j ++ [r] := by
        rw [List.take_succ, hr1]
        rfl
      refine ⟨rfl, _, rfl, _, rfl, _, rfl, a, CT, dx, _, _, rfl, e1 _ _ ha, TU'.cl, TU'.aR, tF_rounds, U, z, _, _, r, m, rfl, hU, hr2.ex e1, hm.ex e1, hz, sS, sL r (List.mem_of_getElem? hr1), sm, fun H2 e2 => ?_⟩
      refine ⟨_, e2 _ _ hd, line_lt (by rw [List.length_map, List.length_map, List.length_take]; omega), Evl.Ex.mut (e1.trans e2) hD, ?_⟩
      rw [upd_same, tk, List.map_append, List.map_append]
      rfl
    · rintro H1 ⟨e1, hd⟩
      rw [lx, List.take_length] at hd
      refine ⟨D, L.map fun o => covB (z * U) o m, rfl, SqL.of hd, ?_⟩
      rw [List.any_map]
      exact k H1 e1
/-! ### the rows of a tune's form are marks -/
def PQ (lo hi : Int) (q : Row) : Prop := ∃ a b, q = [a, b] ∧ lo ≤ a ∧ a < b ∧ b ≤ hi
theorem united_pq {lo hi : Int} {L : List Row} (h : ∀ r ∈ L, PQ lo hi r) : ∀ r ∈ united L, PQ lo hi r := by
  suffices hh : ∀ (L D : List Row), (∀ r ∈ L, PQ lo hi r) → (∀ r ∈ D, PQ lo hi r) → ∀ r ∈ L.foldl ust D, PQ lo hi r from hh L [] h fun r hr => (nomatch hr)
  intro L
  induction L with
  | nil => intro D _ hD; exact hD
  | cons r L ih =>
    intro D hL hD
    refine ih (ust D r) (fun q hq => hL q (List.mem_cons_of_mem _ hq)) fun q hq => ?_
    have hr := hL r List.mem_cons_self
    rcases List.eq_nil_or_concat D with rfl | ⟨D', l, rfl⟩
    · rw [ust_nil, List.mem_singleton] at hq
      rw [hq]
      exact hr
    · rw [List.concat_eq_append] at *
      have hl := hD l (List.mem_append_right _ (List.mem_singleton.mpr rfl))
      rw [ust_snoc] at hq
      split at hq
      · rcases List.mem_append.mp hq with hq | hq
        · exact hD q (List.mem_append_left _ hq)
        · rw [List.mem_singleton.mp hq]
          obtain ⟨a, b, rfl, h1, h2, h3⟩ := hl
          obtain ⟨a', b', rfl, h1', h2', h3'⟩ := hr
          refine ⟨a, max b b', rfl, h1, by omega, by omega⟩
      · rcases List.mem_append.mp hq with hq | hq
        · exact hD q hq
        · rw [List.mem_singleton.mp hq]
          exact hr
/-- five numbers, and a mark -/
def Row5 (r : Row) : Prop := ∃ s p b e k : Int, r = [s, p, b, e, k] ∧ b ≤ s ∧ s < p ∧ p ≤ e
theorem Row5.ok {r : Row} (h : Row5 r) : rowOk r := by
  obtain ⟨s, p, b, e, k, rfl, h1, h2, h3⟩ := h
  exact ⟨h1, h2, h3⟩
theorem Row5.mv {r : Row} (h : Row5 r) (n : Int) : Row5 (mv n r) := by
  obtain ⟨s, p, b, e, k, rfl, h1, h2, h3⟩ := h
  exact ⟨s + n, p + n, b + n, e + n, k, rfl, by omega, by omega, by omega⟩
theorem long_row5 {κ : Type} [DecidableEq κ] {f : Row → κ} {L : List Row} (hf : ∀ r ∈ L, ∀ q ∈ L, f r = f q → r.drop 2 = q.drop 2) (h : ∀ r ∈ L, Row5 r) : ∀ r ∈ long f L, Row5 r := by
  intro r hr
  obtain ⟨x, hx, hr⟩ := List.mem_flatMap.mp hr
  obtain ⟨r', T, e, ek, hL⟩ := grp_ne f L x hx
  have hg := grp_mem f L x hx
  unfold longOf at hr
  obtain ⟨q, hq, rfl⟩ := List.mem_map.mp hr
  obtain ⟨s', p', b, e', k, er, h1, h2, h3⟩ := h r' hL
  have hq2 : PQ b e' q := by
    refine united_pq (fun z hz => ?_) q hq
    obtain ⟨w, hw, rfl⟩ := List.mem_map.mp ((asc_perm _).mem_iff.mp hz)
    rw [hg] at hw
    obtain ⟨hwL, hwk⟩ := List.mem_filter.mp hw
    have hd := hf w hwL r' hL ((of_decide_eq_true hwk).trans ek.symm)
    obtain ⟨sw, pw, bw, ew, kw, rfl, g1, g2, g3⟩ := h w hwL
    rw [er] at hd
    have hd : [bw, ew, kw] = [b, e', k] := hd
    injection hd with z1 hd
    injection hd with z2 hd
    exact ⟨sw, pw, rfl, by omega, g2, by omega⟩
  obtain ⟨a, c, rfl, g1, g2, g3⟩ := hq2
  rw [e, er]
  exact ⟨a, c, b, e', k, rfl, g1, g2, g3⟩
theorem rkey_drop {U : Int} (hU : 0 < U) {r q : Row} (hr : Row5 r) (hq : Row5 q) (h : rkey U r = rkey U q) : r.drop 2 = q.drop 2 := by
  obtain ⟨s, p, b, e, k, rfl, _⟩ := hr
  obtain ⟨s', p', b', e', k', rfl, _⟩ := hq
  obtain ⟨rfl, rfl, rfl⟩ := (mkey_inj hU).mp h
  rfl
theorem home_row5 {S : Int} {L : List Row} (h : ∀ r ∈ L, Row5 r) : ∀ r ∈ homeL S L, Row5 r := fun r hr => by
  obtain ⟨q, hq, rfl⟩ := List.mem_map.mp hr
  exact (h q hq).mv _
theorem ring_row5 {U S : Int} (hU : 0 < U) {L : List Row} (h : ∀ r ∈ L, Row5 r) : ∀ r ∈ ringOf U S L, Row5 r := fun r hr => by
  have hr := (asc_perm _).mem_iff.mp hr
  obtain ⟨q, hq, rfl⟩ := List.mem_map.mp hr
  have hq := (asc_perm _).mem_iff.mp hq
  have h5 := home_row5 (S := S) h
  exact (long_row5 (fun r hr q hq e => rkey_drop hU (h5 r hr) (h5 q hq) e) h5 q hq).mv _
theorem form_row5 {U n : Int} {m : Nat} {R : List Row} (h : ∀ r ∈ R, Row5 r) : ∀ r ∈ formRows U n m R, Row5 r := fun r hr => by
  obtain ⟨t, _, hr⟩ := List.mem_flatMap.mp hr
  obtain ⟨q, hq, rfl⟩ := List.mem_map.mp hr
  exact (h q (List.mem_of_mem_take hq)).mv _
structure TxtR (K : PySem.W.Frag) (mg : Str → Option Value) (CR fR : Addr) : Prop where
  ox : OexC K CR
  nX : PySem.W.findIn K (.ref CR) "rounds" = some none
  iC : PySem.W.findIn K (.ref CR) "__init__" = some (some (.ref fR))
  tI : PySem.W.typeIn K (.ref fR) = some (.type "function")
  mgR : mg "NoRounds" = some (.ref CR)
def spNoR (K : PySem.W.Frag) (C : Addr) : Sp := fun vs H Q _ => ∃ (a : Addr) (x : V), vs = [.ref a, x] ∧ H a = some (exo a C none) ∧ Plain K H x ∧
  ∀ dx, H dx = none → dx ≠ a → Q .non (upd (upd H dx (exd dx [(("rounds" : Str), x)])) a (exo a C (some dx)))
abbrev sNR : Stmt := inClass (top 8) 0
theorem scNR : FnScope ["self", "rounds"] ["self", "rounds"] (defScope sNR) := ⟨rfl, rfl, rfl, by decide +kernel, rfl, by decide +kernel, by decide +kernel⟩
theorem ok_norounds {CR f fR : Addr} {fd : FuncData} (F : Fun K "__init__" "NoRounds.__init__" sNR f fd) (T : TxtR K mg CR fR) (OK : Ok P w K mg base CX0 1 "_kept" ["value"] (spKept K)) : FnOk P w K mg base CX0 2 f fd ["self", "rounds"] (spNoR K CR) := by
  obtain ⟨fKp, fdKp, GKp, mKp, kKp, bKp⟩ := OK
  refine F.ok scNR (fun vs H Q E h => ?_) (fun cdv A outer s H vs Q E hr h => ?_)
  · obtain ⟨a, x, rfl, _⟩ := h
    rfl
  · obtain ⟨a, x, rfl, ha, px, k⟩ := h
    refine ⟨_, (pss_one (ps_ost (pv 0) (pe_call GKp (hr.mono (by decide)) rfl mKp kKp bKp .nil pass0 (pa_cons (pv 1) pa_nil)))), ?_⟩
    exact ⟨_, rfl, x, rfl, px, _, rfl, a, CR, rfl, T.ox, T.nX, .inl ⟨ha, fun dx n1 n2 => k dx n1 n2⟩⟩
theorem MU.kp {U n : Int} {v : V} {p CT dx : Addr} {H H' : Hp} {fs : List (Str × V)} (h : MU C U n v H) (hp : H p = some (.ins CT dx fs)) (hn : fs.lookup ("top" : Str) = none) (k : KpP p H H') : MU C U n v H' := by
  obtain ⟨⟨t, b, N, m⟩, s⟩ := h
  exact ⟨⟨t, b, N, m.kp hp hn k⟩, s⟩
theorem row_kp {U : Int} {r : Row} {v : V} {p CT dx : Addr} {H H' : Hp} {fs : List (Str × V)} (h : TuU C U ks5 r v H) (hp : H p = some (.ins CT dx fs)) (hn : fs.lookup ("top" : Str) = none) (k : KpP p H H') : TuU C U ks5 r v H' := by
  obtain ⟨s, p', b, e, k', rfl, q, xs, xp, xb, xe, rfl, hq, h1, h2, h3, h4⟩ := row5 h
  exact ⟨q, _, rfl, k _ _ hq (fun z => by rw [z, hp] at hq; cases hq), its5_mk (h1.kp hp hn k) (h2.kp hp hn k) (h3.kp hp hn k) (h4.kp hp hn k)⟩
theorem mark_kp {CM : Addr} {U : Int} {r : Row} {v : V} {p CT dx : Addr} {H H' : Hp} {fs : List (Str × V)} (h : MrU CM C U r v H) (hp : H p = some (.ins CT dx fs)) (hn : fs.lookup ("top" : Str) = none) (ht : fs.lookup ("tone" : Str) = none) (k : KpP p H H') : MrU CM C U r v H' := by
  obtain ⟨s, p', b, e, k', a, d, xs, xp, xb, xe, rfl, rfl, ha, h1, h2, h3, h4⟩ := h
  refine ⟨s, p', b, e, k', a, d, xs, xp, xb, xe, rfl, rfl, k _ _ ha (fun z => ?_), h1.kp hp hn k, h2.kp hp hn k, h3.kp hp hn k, h4.kp hp hn k⟩
  rw [z, hp] at ha
  cases ha
  rw [kf_tone] at ht
  cases ht
theorem mk1V {n : Int} {H0 : Hp} {QQ : VK} {E : XK} (sn : Sm 8000 n) {x dx : Addr} (n1 : H0 x = none) (n2 : H0 dx = none) (n3 : dx ≠ x) (k : ∀ H' : Hp, Ex H0 H' → Mo C n 1 (.ref x) H' → QQ .non H') : spInit C CN (.ref x :: ([.int n] ++ [.int 1])) (upd (upd H0 dx (.own x)) x (.ins C dx [])) QQ E :=
  ⟨x, dx, n, 1, rfl, upd_same, sn, Sm.mono (k := 1) (by unfold Sm; decide) (by decide), fun z => absurd z (by decide), fun _ t b N => by
    have e : t = n ∧ b = 1 := by
      have b1 : b = 1 := by
        have := N.pos
        have := N.ble
        omega
      subst b1
      have := N.eq
      exact ⟨by omega, rfl⟩
    obtain ⟨rfl, rfl⟩ := e
    exact k _ (made_ok t 1 n1 n2 n3).1 (made_ok t 1 n1 n2 n3).2⟩
theorem mu_int {U z : Int} {v : V} {H : Hp} (hU : Un U) (s : Sm 390 (z * U)) (h : Mo C z 1 v H) : MU C U (z * U) v H := ⟨⟨z, 1, norm_of hU.pos ⟨by decide, by simp⟩ (by rw [Int.mul_one]), h⟩, s⟩
theorem none_kp {p pm : Addr} {H H4 : Hp} {o : HO} (k : KpP p H H4) (g : H4 p = some o) (n : H4 pm = none) : H pm = none := by
  cases e : H pm with
  | none => rfl
  | some u =>
    have ne : pm ≠ p := fun w => by rw [w, g] at n; cases n
    rw [k _ _ e ne] at n
    cases n
abbrev sTI : Stmt := inClass (top 96) 0
theorem scTI : FnScope ["self", "rounds", "marks", "least", "rows"] ["self", "rounds", "marks"] (defScope sTI) := ⟨rfl, rfl, rfl, by decide +kernel, rfl, by decide +kernel, by decide +kernel⟩
def spTu (CT CM C CR : Addr) (d : Nat) : Sp := fun vs H Q E => ∃ (p a dx : Addr) (z : Int), vs = [.ref p, .int z, .ref a] ∧ H p = some (.ins CT dx []) ∧
  (z < 1 → ∀ (dd : Addr) (fs : List (Str × V)) (H' : Hp), fs.lookup ("rounds" : Str) = some (.int z) → H' dd = some (.xd fs) → Ex H H' → E (.ref CR) (some dd) H') ∧
  (1 ≤ z → ∃ (U : Int) (L : List Row) (xs : List V), Un U ∧ H a = some (.lst xs) ∧ Al (MrU CM C U) H L xs ∧ (∀ r ∈ L, Row5 r) ∧ (∀ r ∈ L, SmR 380 r) ∧ L.length ≤ 2 ^ d ∧ Sm 380 (z * U) ∧ Sm 380 z ∧
    (ringOf U (z * U) L = [] → ∀ (pm : Addr) (H' : Hp), KpP p H H' → H pm = none → H' p = some (.ins CT dx (tF 1 (.ref pm))) → H' pm = some (.lst []) → Q .non H') ∧
    (ringOf U (z * U) L ≠ [] → ∀ (m : Nat) (n : Int) (pm : Addr) (zs : List V) (H' : Hp), LTurn (ringKeys U (z * U) (ringOf U (z * U) L)) m → n * ((ringOf U (z * U) L).length / m : Nat) = z * U → KpP p H H' → H pm = none → H' p = some (.ins CT dx (tF (nt U n) (.ref pm))) → H' pm = some (.lst zs) → Al (MrU CM C U) H' (formRows U n m (ringOf U (z * U) L)) zs → Q .non H'))
theorem ok_tune {CT CM CR fR f : Addr} {fd fdR : FuncData} {d : Nat} (F : Fun K "__init__" "Tune.__init__" sTI f fd) (M : MoE P w K mg base C CN) (TU' : TxtU K mg CT) (TR : TxtR K mg CR fR) (FNR : Fun K "__init__" "NoRounds.__init__" sNR fR fdR) (bNR : Binds K fdR ["self", "rounds"] []) (OK : Ok P w K mg base CX0 1 "_kept" ["value"] (spKept K)) (hd : d ≤ 17)
    (OF : Ok P w K mg base CX0 (d + 14) "tune_form" ["span", "rows"] (spTf C d)) (OR : Ok P w K mg base CX0 1 "rows_of" ["marks"] (spRo2 CM C)) (OM : Ok P w K mg base CX0 11 "marks_of" ["rows"] (spMo2 CM C)) : FnOk P w K mg base (L2.CX P w) (d + 15) f fd ["self", "rounds", "marks"] (spTu CT CM C CR d) := by
  have T := M.T
  have OI := M.I
  have GNR : FnOk P w K mg base CX0 2 fR fdR ["self", "rounds"] (spNoR K CR) := ok_norounds FNR TR OK
  obtain ⟨fI, fdI, dsI, GI, MkC, bI, vI1, bI1⟩ := OI
  obtain ⟨fTf, fdTf, GTf, mTf, kTf, bTf⟩ := OF
  obtain ⟨fRo, fdRo, GRo, mRo, kRo, bRo⟩ := OR
  obtain ⟨fMo, fdMo, GMo, mMo, kMo, bMo⟩ := OM
  refine F.okX scTI (fun vs H Q E h => ?_) (fun cdv A outer s H vs Q E hr h => ?_)
  · obtain ⟨p, a, dx, z, rfl, _⟩ := h
    rfl
  · obtain ⟨p, a, dx, z, rfl, hp, kE, kQ⟩ := h
    have h1 : Room 1 _ := hr.mono (by omega)
    have h5 : Room 5 _ := hr.mono (by omega)
    have h11 : Room 11 _ := hr.mono (by omega)
    have hF : Room (d + 14) _ := hr
    refine ⟨_, (pss_cons (ps_if (pt_cmpR op_lt (pv 1) pe_int (nomark _)) (pss_one (ps_raise rfl (takes_of rfl rfl rfl rfl) (pmk_oex TR.ox TR.iC TR.tI GNR (hr.mono (by omega)) bNR .nil pass0 rfl TR.mgR (pa_cons (pv 1) pa_nil)))) pss_nil)
 (pss_cons (ps_asg (pe_call GTf hF rfl mTf kTf bTf .nil pass0 (pa_cons (pe_make MkC GI h5 rfl T.mgC bI1 vI1 passL (pa_cons (pv 1) pa_nil)) (pa_cons (pe_call GRo h1 rfl mRo kRo bRo .nil pass0 (pa_cons (pv 2) pa_nil)) pa_nil))) (pg_tup rfl (pgs_cons (pg_name (i := 3) scTI.nd rfl (Or.inl rfl)) (pgs_cons (pg_name (i := 4) scTI.nd rfl (Or.inl rfl)) pgs_nil))))
 (pss_cons (ps_fld (pv 0) (pv 3) rfl)
 (pss_one (ps_fld (pv 0) (pe_call GMo h11 rfl mMo kMo bMo .nil pass0 (pa_cons (pv 4) pa_nil)) rfl))))), ?_⟩
    refine ⟨_, rfl, _, _, rfl, rfl, _, rfl, ite2 (fun c1 => ?_) (fun c1 => ?_)⟩
    · have c1 : z < 1 := of_decide_eq_true c1
      refine ⟨_, rfl, (by show 1 ≤ 1000; decide), fun ae ha => ⟨ae, _, rfl, upd_same, .int _, fun d1 n1 n2 => ⟨rfl, d1, _, upd_same, (by rw [upd_ne n2, upd_same]), ?_, ?_⟩⟩⟩
      · rw [upd_ne n2] at n1
        exact n1
      · rw [upd_ne n2] at n1
        refine kE c1 d1 _ _ lkh upd_same fun q o hq => ?_
        have q1 : q ≠ d1 := ne_of_none hq n1
        have q2 : q ≠ ae := ne_of_none hq ha
        rw [upd_ne q1, del_ne q2, upd_ne q2, upd_ne q1, upd_ne q2]
        exact hq
    · have c1 : ¬ z < 1 := of_decide_eq_false (Bool.eq_false_iff.mpr c1)
      obtain ⟨U, L, xs, hU, ha, hx, h5r, hsm, hlen, sS, sz', k0, k1⟩ := kQ (by omega)
      have pS : 0 < z * U := Int.mul_pos (by omega) hU.pos
      have big : 2 ^ d ≤ 2 ^ 17 := Nat.pow_le_pow_right (by decide) hd
      refine ⟨_, rfl, fun x dx' f1 f2 f3 => mk1V (sz'.mono (by decide)) f1 f2 f3 fun H1 e1 m1 => ⟨rfl, ?_⟩⟩
      refine ⟨_, rfl, U, a, xs, L, rfl, e1 _ _ ha, hx.map fun r v h => h.ex e1, by omega, fun p1 zs1 H2 e2 hp1 hz1 => ?_⟩
      have rg5 := ring_row5 (S := z * U) hU.pos h5r
      refine ⟨U, z * U, z, _, p1, zs1, L, rfl, hU, (mu_int hU (sS.mono (by decide)) m1).ex e2, rfl, by omega, sS, hp1, hz1, hsm, hlen, fun hr0 p2 q2 H3 e3 hp2 hq2 => ?_, fun hne m n p2 q2 zs3 H3 hm hn e3 hp2 hq2 hz3 => ?_⟩
      · have hz3 : RsU C U ks5 [] [] H3 := .nil
        have g3 := (e1.trans (e2.trans e3)) _ _ hp
        have kp3 : KpP p H H3 := KpP.ex KpP.refl (e1.trans (e2.trans e3))
        refine ⟨p2, _, rfl, SqT.of hp2, rfl, _, _, rfl, _, _, rfl, rfl, ?_⟩
        refine ⟨_, rfl, _, rfl, p, CT, dx, [], rfl, g3, TU'.cl, TU'.aR, (by show 0 < 1000; decide), ?_⟩
        have np2 : q2 ≠ p := fun w => by rw [w, g3] at hq2; cases hq2
        have kp4 := kp3.upd (o := .ins CT dx (putF "rounds" (.int 1) []))
        have kp34 : KpP p H3 (upd H3 p (.ins CT dx (putF "rounds" (.int 1) []))) := KpP.refl.upd
        have g4 : (upd H3 p (.ins CT dx (putF "rounds" (.int 1) []))) p = some (.ins CT dx (putF "rounds" (.int 1) [])) := upd_same
        have hq4 := kp34 _ _ hq2 np2
        have hz4 : RsU C U ks5 [] [] (upd H3 p (.ins CT dx (putF "rounds" (.int 1) []))) := hz3.map fun r v h => row_kp h g3 rfl kp34
        generalize upd H3 p (.ins CT dx (putF "rounds" (.int 1) [])) = H4 at *
        refine ⟨_, rfl, U, q2, [], [], rfl, hU, hq4, hz4, (fun r hr => (nomatch hr)), Nat.zero_le _, fun pm zs5 H5 e5 n5 hpm hz5 => ?_⟩
        have g5 := e5 _ _ g4
        refine ⟨_, rfl, p, CT, dx, _, rfl, g5, TU'.cl, TU'.aM, (by show 1 < 1000; decide), ?_⟩
        have npm : pm ≠ p := fun w => by rw [w, g5] at hpm; cases hpm
        have kp6 := (kp4.ex e5).upd (o := .ins CT dx (tF 1 (.ref pm)))
        have kp56 : KpP p H5 (upd H5 p (.ins CT dx (tF 1 (.ref pm)))) := KpP.refl.upd
        cases hz5
        exact k0 hr0 pm _ kp6 (none_kp kp4 g4 n5) upd_same (kp56 _ _ hpm npm)
      · have flen : (formRows U n m (ringOf U (z * U) L)).length ≤ 500000 := by
          have hlp : 0 < (ringOf U (z * U) L).length := List.length_pos_iff.mpr hne
          have lk : (ringKeys U (z * U) (ringOf U (z * U) L)).length = (ringOf U (z * U) L).length := by unfold ringKeys; rw [List.length_map, List.length_range]
          have hmm := turn_le hlp hm lk
          have hR : (ringOf U (z * U) L).length ≤ L.length := by
            unfold ringOf homedOf
            rw [(asc_perm _).length_eq]
            unfold ringL
            rw [List.length_map, (asc_perm _).length_eq]
            refine Nat.le_trans (long_len _ _) ?_
            unfold homeL
            rw [List.length_map]
            exact Nat.le_refl _
          have hb := nb_le hU.pos (by omega) hn
          unfold formRows
          rw [form_len, Nat.min_eq_left hmm.1]
          have h3 := Nat.div_mul_le_self (ringOf U (z * U) L).length m
          have h4 : (nb U n).toNat * m ≤ (ringOf U (z * U) L).length / m * m := Nat.mul_le_mul_right m (by omega)
          omega
        have fr5 := form_row5 (U := U) (n := n) (m := m) rg5
        have g3 := (e1.trans (e2.trans e3)) _ _ hp
        have kp3 : KpP p H H3 := KpP.ex KpP.refl (e1.trans (e2.trans e3))
        refine ⟨p2, _, rfl, SqT.of hp2, rfl, _, _, rfl, _, _, rfl, rfl, ?_⟩
        refine ⟨_, rfl, _, rfl, p, CT, dx, [], rfl, g3, TU'.cl, TU'.aR, (by show 0 < 1000; decide), ?_⟩
        have np2 : q2 ≠ p := fun w => by rw [w, g3] at hq2; cases hq2
        have kp4 := kp3.upd (o := .ins CT dx (putF "rounds" (.int (nt U n)) []))
        have kp34 : KpP p H3 (upd H3 p (.ins CT dx (putF "rounds" (.int (nt U n)) []))) := KpP.refl.upd
        have g4 : (upd H3 p (.ins CT dx (putF "rounds" (.int (nt U n)) []))) p = some (.ins CT dx (putF "rounds" (.int (nt U n)) [])) := upd_same
        have hq4 := kp34 _ _ hq2 np2
        have hz4 : RsU C U ks5 (formRows U n m (ringOf U (z * U) L)) zs3 (upd H3 p (.ins CT dx (putF "rounds" (.int (nt U n)) []))) := hz3.map fun r v h => row_kp h g3 rfl kp34
        generalize upd H3 p (.ins CT dx (putF "rounds" (.int (nt U n)) [])) = H4 at *
        refine ⟨_, rfl, U, q2, zs3, (formRows U n m (ringOf U (z * U) L)), rfl, hU, hq4, hz4, (fun r hr => (fr5 r hr).ok), flen, fun pm zs5 H5 e5 n5 hpm hz5 => ?_⟩
        have g5 := e5 _ _ g4
        refine ⟨_, rfl, p, CT, dx, _, rfl, g5, TU'.cl, TU'.aM, (by show 1 < 1000; decide), ?_⟩
        have npm : pm ≠ p := fun w => by rw [w, g5] at hpm; cases hpm
        have kp6 := (kp4.ex e5).upd (o := .ins CT dx (tF (nt U n) (.ref pm)))
        have kp56 : KpP p H5 (upd H5 p (.ins CT dx (tF (nt U n) (.ref pm)))) := KpP.refl.upd
        exact k1 hne m n pm zs5 _ hm hn kp6 (none_kp kp4 g4 n5) upd_same (kp56 _ _ hpm npm) (hz5.map fun r v h => mark_kp h g5 rfl rfl kp56)
/-- what Tune(z, ..) leaves -/
theorem tune_rd {CT CM CR : Addr} {d : Nat} {z : Int} {a : Addr} {H0 : Hp} {Q : VK} {E : XK} {U : Int} {L : List Row} {xs : List V} (hz : 1 ≤ z) (hU : Un U) (ha : H0 a = some (.lst xs)) (hx : Al (MrU CM C U) H0 L xs) (h5 : ∀ r ∈ L, Row5 r) (hsm : ∀ r ∈ L, SmR 380 r) (hlen : L.length ≤ 2 ^ d) (sS : Sm 380 (z * U)) (sz : Sm 380 z)
    {x dx : Addr} (f1 : H0 x = none) (f2 : H0 dx = none) (f3 : dx ≠ x)
    (k0 : ringOf U (z * U) L = [] → ∀ (H' : Hp), Ex H0 H' → TuA CT CM C U 1 [] (.ref x) H' → Q .non H')
    (k1 : ringOf U (z * U) L ≠ [] → ∀ (m : Nat) (n : Int) (H' : Hp), LTurn (ringKeys U (z * U) (ringOf U (z * U) L)) m → n * ((ringOf U (z * U) L).length / m : Nat) = z * U → Ex H0 H' → TuA CT CM C U (nt U n) (formRows U n m (ringOf U (z * U) L)) (.ref x) H' → Q .non H') :
    spTu CT CM C CR d [.ref x, .int z, .ref a] (upd (upd H0 dx (.own x)) x (.ins CT dx [])) Q E := by
  have e0 : Ex H0 (upd (upd H0 dx (.own x)) x (.ins CT dx [])) := fun q o h => by
    rw [upd_ne (ne_of_none h f1), upd_ne (ne_of_none h f2)]
    exact h
  refine ⟨x, a, dx, z, rfl, upd_same, fun h => absurd h (by omega), fun _ => ⟨U, L, xs, hU, e0 _ _ ha, hx.map fun r v h => h.ex e0, h5, hsm, hlen, sS, sz, fun hr pm H' kp _ hp hm => ?_, fun hr m n pm zs H' hm hn kp _ hp hpm hz => ?_⟩⟩
  · exact k0 hr H' (fun q o h => kp q o (e0 _ _ h) (ne_of_none h f1)) ⟨x, dx, pm, [], rfl, hp, hm, .nil⟩
  · exact k1 hr m n H' hm hn (fun q o h => kp q o (e0 _ _ h) (ne_of_none h f1)) ⟨x, dx, pm, zs, rfl, hp, hpm, hz⟩
theorem un1 : Un 1 := ⟨by decide, Sm.mono (k := 1) (by unfold Sm; decide) (by decide)⟩
/-- the class Tune: what isinstance asks -/
structure TxtE (K : PySem.W.Frag) (CT : Addr) : Prop where
  cls : PySem.W.findIn K (.ref CT) "__class__" = some (some (.builtin "object.__class__"))
  obj : PySem.W.mroIn K CT (.type "object") = some true
  isC : PySem.W.kitOne K (.ref CT) (.ref CT) = some true
abbrev sTE : Stmt := inClass (top 96) 3
theorem scTE : FnScope ["self", "other"] ["self", "other"] (defScope sTE) := ⟨rfl, rfl, rfl, by decide +kernel, rfl, by decide +kernel, by decide +kernel⟩
/-- two tunes without marks -/
def spTE0 (CT CM C : Addr) : Sp := fun vs H Q _ => ∃ (U z z' : Int) (x y : V), vs = [x, y] ∧ TuA CT CM C U z [] x H ∧ TuA CT CM C U z' [] y H ∧ Q (.bl (decide (z = z'))) H
theorem ok_teq {CT CM f : Addr} {fd : FuncData} (F : Fun K "__eq__" "Tune.__eq__" sTE f fd) (T : Txt K mg C) (TU' : TxtU K mg CT) (TE : TxtE K CT) : FnOk P w K mg base CX0 1 f fd ["self", "other"] (spTE0 CT CM C) := by
  refine F.ok scTE (fun vs H Q E h => ?_) (fun cdv A outer s H vs Q E hr h => ?_)
  · obtain ⟨U, z, z', x, y, rfl, _⟩ := h
    rfl
  · obtain ⟨U, z, z', x, y, rfl, hx, hy, k⟩ := h
    obtain ⟨a, dx, pm, xs, rfl, ha, hpm, al⟩ := hx
    obtain ⟨b, dy, qm, ys, rfl, hb, hqm, bl⟩ := hy
    cases al
    cases bl
    refine ⟨_, (pss_one (ps_ret (pe_and (pe_callB (r := rIsi K) call_isi rfl T.isi PyProof.Rows.boot_isinstance (pa_cons (pv 1) (pa_cons (pe_glob (v := .ref CT) rfl TU'.mgT rfl) pa_nil))) (pe_and (pe_cmpR op_eq (pe_fld (pv 0) rfl) (pe_fld (pv 1) rfl) (nomark _)) (pe_one (pe_cmpR (op_eqD hr.units) (pe_fld (pv 0) rfl) (pe_fld (pv 1) rfl) (nomark _))))))), ?_⟩
    have ty : TyX K H (.ref b) (.ref CT) := .base (.ins hb TU'.cl TE.cls T.clg T.clt TE.obj)
    refine ⟨_, rfl, _, _, _, _, true, rfl, .own CT, ty, TE.isC, true, rfl, iteT ?_⟩
    refine ⟨_, rfl, a, CT, dx, _, _, rfl, ha, TU'.cl, TU'.aR, tF_rounds, _, rfl, b, CT, dy, _, _, rfl, hb, TU'.cl, TU'.aR, tF_rounds, rfl, _, rfl, ite2 (fun c1 => ?_) (fun c1 => ?_)⟩
    · have hz : z = z' := by
        have w := of_decide_eq_true c1
        injection w
      rw [decide_eq_true hz] at k
      exact ⟨_, rfl, a, CT, dx, _, _, rfl, ha, TU'.cl, TU'.aM, tF_marks, _, rfl, b, CT, dy, _, _, rfl, hb, TU'.cl, TU'.aM, tF_marks, .list [], .list [], .lst (SqL.of hpm) .nil, .lst (SqL.of hqm) .nil, by decide, by decide, k⟩
    · have hz : ¬ z = z' := fun w => c1 (decide_eq_true (by rw [w]))
      rw [decide_eq_false hz] at k
      exact k
/-! ### what the longest parts cover -/
theorem rkey_of_drop {U : Int} {r q : Row} (hr : Row5 r) (hq : Row5 q) (h : r.drop 2 = q.drop 2) : rkey U r = rkey U q := by
  obtain ⟨s, p, b, e, k, rfl, _⟩ := hr
  obtain ⟨s', p', b', e', k', rfl, _⟩ := hq
  have h : [b, e, k] = [b', e', k'] := h
  injection h with h1 h
  injection h with h2 h
  injection h with h3 _
  subst h1 h2 h3
  rfl
theorem cv_se {t : Int} {r : Row} : Cv t (se r) ↔ Cv t r := Iff.rfl
theorem se_pos {L : List Row} (h : ∀ r ∈ L, Row5 r) : ∀ r ∈ L.map se, ∃ a b, r = [a, b] ∧ a < b := fun r hr => by
  obtain ⟨w, hw, rfl⟩ := List.mem_map.mp hr
  obtain ⟨s, p, b, e, k, rfl, h1, h2, h3⟩ := h w hw
  exact ⟨s, p, rfl, h2⟩
theorem united_two {L : List Row} (h : ∀ r ∈ L, ∃ a b, r = [a, b] ∧ a < b) : ∀ r ∈ united L, ∃ a b, r = [a, b] := by
  suffices hh : ∀ (L D : List Row), (∀ r ∈ L, ∃ a b, r = [a, b] ∧ a < b) → (∀ r ∈ D, ∃ a b, r = [a, b]) → ∀ r ∈ L.foldl ust D, ∃ a b, r = [a, b] from hh L [] h fun r hr => (nomatch hr)
  intro L
  induction L with
  | nil => intro D _ hD; exact hD
  | cons r L ih =>
    intro D hL hD
    refine ih (ust D r) (fun q hq => hL q (List.mem_cons_of_mem _ hq)) fun q hq => ?_
    obtain ⟨a, b, er, _⟩ := hL r List.mem_cons_self
    rcases List.eq_nil_or_concat D with rfl | ⟨D', l, rfl⟩
    · rw [ust_nil, List.mem_singleton] at hq
      exact ⟨a, b, hq.trans er⟩
    · rw [List.concat_eq_append] at *
      rw [ust_snoc] at hq
      split at hq
      · rcases List.mem_append.mp hq with hq | hq
        · exact hD q (List.mem_append_left _ hq)
        · exact ⟨_, _, List.mem_singleton.mp hq⟩
      · rcases List.mem_append.mp hq with hq | hq
        · exact hD q hq
        · exact ⟨a, b, (List.mem_singleton.mp hq).trans er⟩
theorem long_covers {U : Int} (hU : 0 < U) {L : List Row} (h : ∀ r ∈ L, Row5 r) {T : Row} {lo hi : Int} (hlt : lo < hi) : (∃ q ∈ long (rkey U) L, q.drop 2 = T ∧ r0 q ≤ lo ∧ hi ≤ r1 q) ↔ ∀ t, lo ≤ t → t < hi → ∃ r ∈ L, r.drop 2 = T ∧ Cv t r := by
  have sub : ∀ x ∈ grp (rkey U) L, ∀ w ∈ x.2, w ∈ L ∧ rkey U w = x.1 := fun x hx w hw => by
    rw [grp_mem (rkey U) L x hx] at hw
    obtain ⟨h1, h2⟩ := List.mem_filter.mp hw
    exact ⟨h1, of_decide_eq_true h2⟩
  constructor
  · rintro ⟨q, hq, hT, h1, h2⟩ t h3 h4
    obtain ⟨x, hx, hq⟩ := List.mem_flatMap.mp hq
    obtain ⟨r', T0, e, ek, hL⟩ := grp_ne (rkey U) L x hx
    unfold longOf at hq
    obtain ⟨u, hu, rfl⟩ := List.mem_map.mp hq
    have h5 : ∀ r ∈ x.2, Row5 r := fun r hr => h r (sub x hx r hr).1
    have hse := se_pos h5
    obtain ⟨a, b, rfl⟩ := united_two (fun r hr => hse r ((asc_perm _).mem_iff.mp hr)) u hu
    obtain ⟨p, hp, hc⟩ := (united_covers hse hlt).mp ⟨_, hu, h1, h2⟩ t h3 h4
    obtain ⟨w, hw, rfl⟩ := List.mem_map.mp hp
    obtain ⟨w1, w2⟩ := sub x hx w hw
    refine ⟨w, w1, ?_, cv_se.mp hc⟩
    rw [rkey_drop hU (h w w1) (h r' hL) (w2.trans ek.symm), ← hT, e]
    rfl
  · intro hh
    obtain ⟨r, hr, hT, _⟩ := hh lo (Int.le_refl _) hlt
    obtain ⟨x, hx, ex⟩ := List.mem_map.mp (((grp_keys (rkey U) L).2 (rkey U r)).mpr ⟨r, hr, rfl⟩)
    obtain ⟨r', T0, e, ek, hL⟩ := grp_ne (rkey U) L x hx
    have h5 : ∀ r ∈ x.2, Row5 r := fun r hr => h r (sub x hx r hr).1
    have hse := se_pos h5
    obtain ⟨u, hu, h1, h2⟩ := (united_covers hse hlt).mpr fun t h3 h4 => by
      obtain ⟨w, hw, hwT, hc⟩ := hh t h3 h4
      refine ⟨se w, List.mem_map.mpr ⟨w, ?_, rfl⟩, cv_se.mpr hc⟩
      rw [grp_mem (rkey U) L x hx]
      refine List.mem_filter.mpr ⟨hw, decide_eq_true ?_⟩
      rw [ex]
      exact rkey_of_drop (h w hw) (h r hr) (hwT.trans hT.symm)
    obtain ⟨a, b, rfl⟩ := united_two (fun r hr => hse r ((asc_perm _).mem_iff.mp hr)) u hu
    refine ⟨[a, b] ++ (x.2.headD []).drop 2, List.mem_flatMap.mpr ⟨x, hx, List.mem_map.mpr ⟨_, hu, rfl⟩⟩, ?_, h1, h2⟩
    rw [e]
    show r'.drop 2 = T
    rw [← hT]
    exact rkey_drop hU (h r' hL) (h r hr) (ek.trans ex)
/-! ### the copies of rows, and what they show -/
theorem mv_five {n s p b e k : Int} : mv n [s, p, b, e, k] = [s + n, p + n, b + n, e + n, k] := rfl
theorem mv_mv (a c : Int) (r : Row) : mv a (mv c r) = mv (c + a) r := by
  show [_, _, _, _, _] = [_, _, _, _, _]
  simp only [List.cons.injEq, and_true]
  refine ⟨?_, ?_, ?_, ?_, rfl⟩
  · show r.getD 0 0 + c + a = _
    omega
  · show r.getD 1 0 + c + a = _
    omega
  · show r.getD 2 0 + c + a = _
    omega
  · show r.getD 3 0 + c + a = _
    omega
theorem mv_zero {r : Row} (h : Row5 r) : mv 0 r = r := by
  obtain ⟨s, p, b, e, k, rfl, _⟩ := h
  rw [mv_five, Int.add_zero, Int.add_zero, Int.add_zero, Int.add_zero]
/-- all copies by whole spans -/
def Ob (S : Int) (L : List Row) (r : Row) : Prop := ∃ q ∈ L, ∃ j : Int, r = mv (S * j) q
/-- the mark is shown at t -/
def Shw (O : Row → Prop) (t b e k : Int) : Prop := ∃ s p, O [s, p, b, e, k] ∧ s ≤ t ∧ t < p
theorem Ob.row {S : Int} {L : List Row} (h : ∀ r ∈ L, Row5 r) {r : Row} (o : Ob S L r) : Row5 r := by
  obtain ⟨q, hq, j, rfl⟩ := o
  exact (h q hq).mv _
theorem Ob.shift {S : Int} {L : List Row} {r : Row} (o : Ob S L r) (j : Int) : Ob S L (mv (S * j) r) := by
  obtain ⟨q, hq, i, rfl⟩ := o
  exact ⟨q, hq, i + j, by rw [mv_mv, Int.mul_add]⟩
theorem ob_at {S : Int} {L : List Row} (h : ∀ r ∈ L, Row5 r) {s p b e k : Int} : Ob S L [s, p, b, e, k] ↔ ∃ j : Int, [s - S * j, p - S * j, b - S * j, e - S * j, k] ∈ L := by
  constructor
  · rintro ⟨q, hq, j, er⟩
    obtain ⟨s', p', b', e', k', rfl, _⟩ := h q hq
    rw [mv_five] at er
    injection er with e1 er
    injection er with e2 er
    injection er with e3 er
    injection er with e4 er
    injection er with e5 _
    subst e1 e2 e3 e4 e5
    refine ⟨j, ?_⟩
    rw [Int.add_sub_cancel, Int.add_sub_cancel, Int.add_sub_cancel, Int.add_sub_cancel]
    exact hq
  · rintro ⟨j, hj⟩
    refine ⟨_, hj, j, ?_⟩
    rw [mv_five, Int.sub_add_cancel, Int.sub_add_cancel, Int.sub_add_cancel, Int.sub_add_cancel]
theorem ob_map {S : Int} {L : List Row} (g : Row → Int) (r : Row) : Ob S (L.map fun r => mv (S * g r) r) r ↔ Ob S L r := by
  constructor
  · rintro ⟨q, hq, j, rfl⟩
    obtain ⟨w, hw, rfl⟩ := List.mem_map.mp hq
    exact ⟨w, hw, g w + j, by rw [mv_mv, Int.mul_add]⟩
  · rintro ⟨q, hq, j, rfl⟩
    refine ⟨mv (S * g q) q, List.mem_map.mpr ⟨q, hq, rfl⟩, j - g q, ?_⟩
    rw [mv_mv, ← Int.mul_add]
    congr 2
    omega
theorem ob_perm {S : Int} {L N : List Row} (p : L.Perm N) (r : Row) : Ob S L r ↔ Ob S N r := by
  unfold Ob
  simp only [p.mem_iff]
theorem hm_mul (S n : Int) : hm S n = S * (-(n.fdiv S)) := by
  unfold hm
  rw [Int.mul_neg]
theorem ob_home {S : Int} {L : List Row} (r : Row) : Ob S (homeL S L) r ↔ Ob S L r := by
  unfold homeL
  simp only [hm_mul]
  exact ob_map (fun r => -((r.getD 2 0).fdiv S)) r
theorem ob_ring {S : Int} {L : List Row} (r : Row) : Ob S (ringL S L) r ↔ Ob S L r := by
  unfold ringL
  simp only [hm_mul]
  exact ob_map (fun r => -((r.getD 0 0).fdiv S)) r
theorem shw_at {S : Int} {L : List Row} (h : ∀ r ∈ L, Row5 r) {t b e k : Int} : Shw (Ob S L) t b e k ↔ ∃ j : Int, ∃ r ∈ L, r.drop 2 = [b - S * j, e - S * j, k] ∧ Cv (t - S * j) r := by
  constructor
  · rintro ⟨s, p, o, h1, h2⟩
    obtain ⟨j, hj⟩ := (ob_at h).mp o
    refine ⟨j, _, hj, rfl, ?_, ?_⟩
    · show s - S * j ≤ t - S * j
      omega
    · show t - S * j < p - S * j
      omega
  · rintro ⟨j, r, hr, hd, h1, h2⟩
    obtain ⟨s, p, b', e', k', rfl, _⟩ := h r hr
    have hd : [b', e', k'] = [b - S * j, e - S * j, k] := hd
    injection hd with z1 hd
    injection hd with z2 hd
    injection hd with z3 _
    subst z1 z2 z3
    have h1 : s ≤ t - S * j := h1
    have h2 : t - S * j < p := h2
    refine ⟨s + S * j, p + S * j, (ob_at h).mpr ⟨j, ?_⟩, by omega, by omega⟩
    rw [Int.add_sub_cancel, Int.add_sub_cancel]
    exact hr
theorem long5 {U : Int} (hU : 0 < U) {L : List Row} (h : ∀ r ∈ L, Row5 r) : ∀ r ∈ long (rkey U) L, Row5 r := long_row5 (fun r hr q hq e => rkey_drop hU (h r hr) (h q hq) e) h
theorem long_shw {U S : Int} (hU : 0 < U) {L : List Row} (h : ∀ r ∈ L, Row5 r) {t b e k : Int} : Shw (Ob S (long (rkey U) L)) t b e k ↔ Shw (Ob S L) t b e k := by
  rw [shw_at h, shw_at (long5 hU h)]
  refine exists_congr fun j => ?_
  have := long_covers hU h (T := [b - S * j, e - S * j, k]) (show t - S * j < t - S * j + 1 by omega)
  constructor
  · rintro ⟨r, hr, hd, h1, h2⟩
    obtain ⟨q, hq, g1, g2⟩ := this.mp ⟨r, hr, hd, h1, by have : t - S * j < r1 r := h2; omega⟩ _ (Int.le_refl _) (by omega)
    exact ⟨q, hq, g1, g2⟩
  · rintro ⟨r, hr, hd, hc⟩
    obtain ⟨q, hq, g1, g2, g3⟩ := this.mpr fun t' h1 h2 => ⟨r, hr, hd, by rw [show t' = t - S * j by omega]; exact hc⟩
    exact ⟨q, hq, g1, g2, by omega⟩
/-- parts of one mark are one, or apart -/
theorem sep_two {D : List Row} (h : Sep D) {q q' : Row} (h1 : q ∈ D) (h2 : q' ∈ D) : q = q' ∨ r1 q < r0 q' ∨ r1 q' < r0 q := by
  have g := h.gap
  clear h
  induction g with
  | nil => cases h1
  | cons hx _ ih =>
    rcases List.mem_cons.mp h1 with e1 | k1
    · rcases List.mem_cons.mp h2 with e2 | k2
      · exact .inl (e1.trans e2.symm)
      · rw [e1]
        exact .inr (.inl (hx q' k2))
    · rcases List.mem_cons.mp h2 with e2 | k2
      · rw [e2]
        exact .inr (.inr (hx q k1))
      · exact ih k1 k2
theorem long_sep {U : Int} (hU : 0 < U) {L : List Row} (h : ∀ r ∈ L, Row5 r) {q q' : Row} (h1 : q ∈ long (rkey U) L) (h2 : q' ∈ long (rkey U) L) (hd : q.drop 2 = q'.drop 2) : q = q' ∨ r1 q < r0 q' ∨ r1 q' < r0 q := by
  have sub : ∀ x ∈ grp (rkey U) L, ∀ w ∈ x.2, w ∈ L ∧ rkey U w = x.1 := fun x hx w hw => by
    rw [grp_mem (rkey U) L x hx] at hw
    obtain ⟨h1, h2⟩ := List.mem_filter.mp hw
    exact ⟨h1, of_decide_eq_true h2⟩
  obtain ⟨x, hx, hq⟩ := List.mem_flatMap.mp h1
  obtain ⟨y, hy, hq'⟩ := List.mem_flatMap.mp h2
  obtain ⟨r, T, ex, ek, hL⟩ := grp_ne (rkey U) L x hx
  obtain ⟨r', T', ey, ek', hL'⟩ := grp_ne (rkey U) L y hy
  unfold longOf at hq hq'
  obtain ⟨u, hu, rfl⟩ := List.mem_map.mp hq
  obtain ⟨u', hu', rfl⟩ := List.mem_map.mp hq'
  have h5 : ∀ r ∈ x.2, Row5 r := fun r hr => h r (sub x hx r hr).1
  have h5' : ∀ r ∈ y.2, Row5 r := fun r hr => h r (sub y hy r hr).1
  have hse := se_pos h5
  have hse' := se_pos h5'
  obtain ⟨a, b, rfl⟩ := united_two (fun r hr => hse r ((asc_perm _).mem_iff.mp hr)) u hu
  obtain ⟨a', b', rfl⟩ := united_two (fun r hr => hse' r ((asc_perm _).mem_iff.mp hr)) u' hu'
  rw [ex, ey] at hd
  have hd : r.drop 2 = r'.drop 2 := hd
  have hxy : x.1 = y.1 := by rw [← ek, ← ek']; exact rkey_of_drop (h r hL) (h r' hL') hd
  have e : x = y := nd_inj (grp_keys (rkey U) L).1 hx hy hxy
  subst e
  have hp : ∀ r ∈ asc (x.2.map se), r0 r < r1 r := fun r hr => by
    obtain ⟨a, b, rfl, h1⟩ := hse r ((asc_perm _).mem_iff.mp hr)
    exact h1
  obtain ⟨s1, _⟩ := united_sep hp (srt_r0 (fun r hr e => by
    obtain ⟨a, b, e2, _⟩ := hse r ((asc_perm _).mem_iff.mp hr)
    rw [e] at e2
    cases e2) (asc_srt _))
  rcases sep_two s1 hu hu' with e | e | e
  · exact .inl (by rw [e])
  · exact .inr (.inl e)
  · exact .inr (.inr e)
/-- the longest parts of all of time -/
structure NF (O : Row → Prop) : Prop where
  row : ∀ r, O r → Row5 r
  sep : ∀ {s p s' p' b e k : Int}, O [s, p, b, e, k] → O [s', p', b, e, k] → (s = s' ∧ p = p') ∨ p < s' ∨ p' < s
theorem NF.congr {O O' : Row → Prop} (h : NF O) (e : ∀ r, O' r ↔ O r) : NF O' := ⟨fun r o => h.row r ((e r).mp o), fun a b => h.sep ((e _).mp a) ((e _).mp b)⟩
theorem shw_congr {O O' : Row → Prop} (e : ∀ r, O' r ↔ O r) {t b d k : Int} : Shw O' t b d k ↔ Shw O t b d k := by
  unfold Shw
  simp only [e]
theorem long_nf {U S : Int} (hU : 0 < U) {L : List Row} (h : ∀ r ∈ L, Row5 r) (hb : ∀ r ∈ L, 0 ≤ r.getD 2 0 ∧ r.getD 2 0 < S) : NF (Ob S (long (rkey U) L)) := by
  have h5 := long5 hU h
  refine ⟨fun r o => o.row h5, fun {s p s' p' b e k} o o' => ?_⟩
  obtain ⟨j, hj⟩ := (ob_at h5).mp o
  obtain ⟨i, hi⟩ := (ob_at h5).mp o'
  have bnd : ∀ q ∈ long (rkey U) L, 0 ≤ q.getD 2 0 ∧ q.getD 2 0 < S := fun q hq => by
    obtain ⟨s', p', b', e', k', rfl, h1, h2, h3⟩ := h5 q hq
    obtain ⟨w, hw, hd, _⟩ := (long_covers hU h h2).mp ⟨_, hq, rfl, Int.le_refl _, Int.le_refl _⟩ s' (Int.le_refl _) h2
    have hb' := hb w hw
    obtain ⟨s2, p2, b2, e2, k2, rfl, _⟩ := h w hw
    have hd : [b2, e2, k2] = [b', e', k'] := hd
    injection hd with z1 hd
    rw [z1] at hb'
    exact hb'
  have b1 : 0 ≤ b - S * j ∧ b - S * j < S := bnd _ hj
  have b2 : 0 ≤ b - S * i ∧ b - S * i < S := bnd _ hi
  have ij : j = i := by
    have hS : 0 < S := by omega
    have l1 : S * (j - i) < S * 1 := by rw [Int.mul_sub]; omega
    have l2 : S * (i - j) < S * 1 := by rw [Int.mul_sub]; omega
    have := Int.lt_of_mul_lt_mul_left l1 (Int.le_of_lt hS)
    have := Int.lt_of_mul_lt_mul_left l2 (Int.le_of_lt hS)
    omega
  subst ij
  rcases long_sep hU h hj hi rfl with z | z | z
  · injection z with z1 z
    injection z with z2 _
    exact .inl ⟨by omega, by omega⟩
  · have z : p - S * j < s' - S * j := z
    exact .inr (.inl (by omega))
  · have z : p' - S * j < s - S * j := z
    exact .inr (.inr (by omega))
theorem hm_in {S n : Int} (hS : 0 < S) : 0 ≤ n + hm S n ∧ n + hm S n < S := by
  rw [hm_eq hS]
  have h1 := Int.emod_nonneg n (Int.ne_of_gt hS)
  have h2 := Int.emod_lt_of_pos n hS
  omega
theorem home_in {S : Int} (hS : 0 < S) {L : List Row} : ∀ r ∈ homeL S L, 0 ≤ r.getD 2 0 ∧ r.getD 2 0 < S := fun r hr => by
  obtain ⟨q, _, rfl⟩ := List.mem_map.mp hr
  exact hm_in hS
theorem ring_in {U S : Int} (hS : 0 < S) {L : List Row} : ∀ r ∈ ringOf U S L, 0 ≤ r.getD 0 0 ∧ r.getD 0 0 < S := fun r hr => by
  obtain ⟨q, _, rfl⟩ := List.mem_map.mp ((asc_perm _).mem_iff.mp hr)
  exact hm_in hS
theorem ring_ob {U S : Int} {L : List Row} (r : Row) : Ob S (ringOf U S L) r ↔ Ob S (long (rkey U) (homeL S L)) r :=
  (ob_perm (asc_perm _) r).trans ((ob_ring r).trans (ob_perm (asc_perm _) r))
/-- the ring: the longest parts, and what they show -/
theorem ring_nf {U S : Int} (hU : 0 < U) (hS : 0 < S) {L : List Row} (h : ∀ r ∈ L, Row5 r) : NF (Ob S (ringOf U S L)) := (long_nf hU (home_row5 h) (home_in hS)).congr ring_ob
theorem ring_shw {U S : Int} (hU : 0 < U) {L : List Row} (h : ∀ r ∈ L, Row5 r) {t b e k : Int} : Shw (Ob S (ringOf U S L)) t b e k ↔ Shw (Ob S L) t b e k :=
  (shw_congr ring_ob).trans ((long_shw hU (home_row5 h)).trans (shw_congr ob_home))
/-- a stretch of a mark that is shown throughout lies in one part -/
theorem NF.through {O : Row → Prop} (h : NF O) {lo hi b e k : Int} (hlt : lo < hi) : (∀ t, lo ≤ t → t < hi → Shw O t b e k) ↔ ∃ s p, O [s, p, b, e, k] ∧ s ≤ lo ∧ hi ≤ p := by
  constructor
  · intro hc
    obtain ⟨s, p, o, h1, h2⟩ := hc lo (Int.le_refl _) hlt
    refine ⟨s, p, o, h1, Int.not_lt.mp fun z => ?_⟩
    obtain ⟨s', p', o', h3, h4⟩ := hc p (by omega) z
    rcases h.sep o o' with ⟨e1, e2⟩ | e1 | e1 <;> omega
  · rintro ⟨s, p, o, h1, h2⟩ t h3 h4
    exact ⟨s, p, o, by omega, by omega⟩
/-! ### a ring that is the same when it is turned -/
theorem ringKey_eq {U af af' s p b e k s' p' b' e' k' : Int} (hU : 0 < U) (h : ringKey U af [s, p, b, e, k] = ringKey U af' [s', p', b', e', k']) : af - s = af' - s' ∧ p - s = p' - s' ∧ b - s = b' - s' ∧ e - s = e' - s' ∧ k = k' := by
  unfold ringKey tkey mkey at h
  injection h with h1 h
  injection h with h2 h
  injection h with h3 h
  injection h with h4 h
  injection h with h5 h
  injection h with h6 h
  injection h with h7 h
  injection h with h8 h
  injection h with h9 h
  injection h1 with h1
  injection h2 with h2
  injection h3 with h3
  injection h4 with h4
  injection h5 with h5
  injection h6 with h6
  injection h7 with h7
  injection h8 with h8
  injection h9 with h9
  exact ⟨nt_inj hU h1 h2, nt_inj hU h3 h4, nt_inj hU h6 h7, nt_inj hU h8 h9, h5⟩
/-- the endless row of a ring -/
def En (S : Int) (R : List Row) (i : Nat) : Row := mv (S * ((i / R.length : Nat) : Int)) (R.getD (i % R.length) [])
theorem getD_mem {R : List Row} {i : Nat} (h : i < R.length) : R.getD i [] ∈ R := by
  rw [List.getD_eq_getElem?_getD, List.getElem?_eq_getElem h]
  exact List.getElem_mem h
section
variable {U S : Int} {R : List Row}
theorem En.row (h : ∀ r ∈ R, Row5 r) (hl : 0 < R.length) (i : Nat) : Row5 (En S R i) := (h _ (getD_mem (Nat.mod_lt i hl))).mv _
theorem En.lt (h : ∀ r ∈ R, Row5 r) {i : Nat} (hi : i < R.length) : En S R i = R.getD i [] := by
  unfold En
  rw [Nat.div_eq_of_lt hi, Nat.mod_eq_of_lt hi]
  show mv (S * 0) _ = _
  rw [Int.mul_zero]
  exact mv_zero (h _ (getD_mem hi))
theorem En.span (hl : 0 < R.length) (i : Nat) : En S R (i + R.length) = mv S (En S R i) := by
  unfold En
  rw [Nat.add_mod_right, Nat.add_div_right i hl, mv_mv]
  congr 1
  show S * ((i / R.length : Nat) + 1 : Int) = _
  rw [Int.mul_add, Int.mul_one]
theorem mv_st (n : Int) (r : Row) : (mv n r).getD 0 0 = r.getD 0 0 + n := rfl
theorem En.gap (hl : 0 < R.length) (i : Nat) : (En S R (i + 1)).getD 0 0 - (En S R i).getD 0 0 = afterAt S R (i % R.length) - (R.getD (i % R.length) []).getD 0 0 := by
  unfold En
  rw [mv_st, mv_st]
  unfold afterAt
  have hm := Nat.mod_lt i hl
  have hd := Nat.div_add_mod i R.length
  by_cases c : i % R.length + 1 < R.length
  · rw [if_pos c]
    have e1 : (i + 1) % R.length = i % R.length + 1 := by
      rw [← hd, Nat.add_assoc, Nat.mul_add_mod, Nat.mod_eq_of_lt c, Nat.mul_add_mod, Nat.mod_eq_of_lt hm]
    have e2 : (i + 1) / R.length = i / R.length := by
      have h3 := Nat.div_add_mod (i + 1) R.length
      rw [e1] at h3
      have : R.length * ((i + 1) / R.length) = R.length * (i / R.length) := by omega
      exact Nat.eq_of_mul_eq_mul_left hl this
    rw [e1, e2]
    omega
  · rw [if_neg c]
    have e0 : i + 1 = R.length * (i / R.length + 1) := by
      rw [Nat.mul_add, Nat.mul_one]
      omega
    have e1 : (i + 1) % R.length = 0 := by rw [e0]; exact Nat.mul_mod_right _ _
    have e2 : (i + 1) / R.length = i / R.length + 1 := by rw [e0]; exact Nat.mul_div_cancel_left _ hl
    rw [e1, e2]
    have : S * ((i / R.length + 1 : Nat) : Int) = S * ((i / R.length : Nat) : Int) + S := by
      show S * ((i / R.length : Nat) + 1 : Int) = _
      rw [Int.mul_add, Int.mul_one]
    rw [this]
    omega
theorem rot_at {α : Type} {ks : List α} {m : Nat} (hm : 0 < m) (hl : m ≤ ks.length) (h : ks.drop m ++ ks.take m = ks) {i : Nat} (hi : i < ks.length) : ks[(i + m) % ks.length]? = ks[i]? := by
  have e := congrArg (fun l => l[i]?) h
  rw [← e]
  show _ = (ks.drop m ++ ks.take m)[i]?
  by_cases c : i + m < ks.length
  · rw [Nat.mod_eq_of_lt c, List.getElem?_append_left (by rw [List.length_drop]; omega), List.getElem?_drop, Nat.add_comm]
  · have e2 : (i + m) % ks.length = i + m - ks.length := by
      rw [Nat.mod_eq_sub_mod (by omega), Nat.mod_eq_of_lt (by omega)]
    rw [e2, List.getElem?_append_right (by rw [List.length_drop]; omega), List.length_drop, List.getElem?_take, if_pos (by omega)]
    congr 1
    omega
theorem keys_len : (ringKeys U S R).length = R.length := by unfold ringKeys; rw [List.length_map, List.length_range]
theorem keys_at {i : Nat} (hi : i < R.length) : (ringKeys U S R)[i]? = some (ringKey U (afterAt S R i) (R.getD i [])) := by
  unfold ringKeys
  rw [List.getElem?_map, List.getElem?_range hi]
  rfl
theorem turn_key (hU : 0 < U) {m : Nat} (h : LTurn (ringKeys U S R) m) (hl : 0 < R.length) (i : Nat) : ringKey U (afterAt S R ((i + m) % R.length)) (R.getD ((i + m) % R.length) []) = ringKey U (afterAt S R (i % R.length)) (R.getD (i % R.length) []) := by
  have hm : m ≤ R.length := by
    have := h.rot.1
    rw [keys_len] at this
    exact Nat.le_of_dvd hl (Nat.dvd_of_mod_eq_zero this)
  have h1 := rot_at h.pos (by rw [keys_len]; exact hm) h.rot.2 (i := i % R.length) (by rw [keys_len]; exact Nat.mod_lt i hl)
  rw [keys_len, Nat.mod_add_mod, keys_at (Nat.mod_lt _ hl), keys_at (Nat.mod_lt _ hl)] at h1
  exact Option.some.inj h1
/-- m places on, it is the same, so much later -/
theorem En.turn (hU : 0 < U) (h5 : ∀ r ∈ R, Row5 r) {m : Nat} (h : LTurn (ringKeys U S R) m) (hl : 0 < R.length) : ∃ c : Int, ∀ i, En S R (i + m) = mv c (En S R i) := by
  have st : ∀ i, (En S R (i + m)).getD 0 0 - (En S R i).getD 0 0 = (En S R m).getD 0 0 - (En S R 0).getD 0 0 := by
    intro i
    induction i with
    | zero => rw [Nat.zero_add]
    | succ i ih =>
      have g1 := En.gap (S := S) hl (i + m)
      have g2 := En.gap (S := S) hl i
      have hk := turn_key hU h hl i
      have gg := ringKey_gap hU hk
      rw [show i + m + 1 = i + 1 + m by omega] at g1
      omega
  refine ⟨(En S R m).getD 0 0 - (En S R 0).getD 0 0, fun i => ?_⟩
  have hs := st i
  have hk := turn_key hU h hl i
  have r1 := h5 _ (getD_mem (Nat.mod_lt (i + m) hl))
  have r2 := h5 _ (getD_mem (Nat.mod_lt i hl))
  generalize (En S R m).getD 0 0 - (En S R 0).getD 0 0 = c at *
  unfold En at hs ⊢
  rw [mv_st, mv_st] at hs
  generalize R.getD ((i + m) % R.length) [] = q at *
  generalize R.getD (i % R.length) [] = r at *
  obtain ⟨s, p, b, e, k, rfl, _⟩ := r1
  obtain ⟨s', p', b', e', k', rfl, _⟩ := r2
  obtain ⟨_, z2, z3, z4, z5⟩ := ringKey_eq hU hk
  have hs : s + S * (((i + m) / R.length : Nat) : Int) - (s' + S * ((i / R.length : Nat) : Int)) = c := hs
  subst z5
  rw [mv_mv, mv_five, mv_five]
  simp only [List.cons.injEq, and_true]
  refine ⟨by omega, by omega, by omega, by omega⟩
theorem En.turns {c : Int} {m : Nat} (h : ∀ i, En S R (i + m) = mv c (En S R i)) (h5 : ∀ r ∈ R, Row5 r) (hl : 0 < R.length) (i a : Nat) : En S R (i + a * m) = mv (c * (a : Int)) (En S R i) := by
  induction a with
  | zero =>
    rw [Nat.zero_mul, Nat.add_zero]
    show _ = mv (c * 0) _
    rw [Int.mul_zero, mv_zero (En.row h5 hl i)]
  | succ a ih =>
    rw [Nat.add_mul, Nat.one_mul, ← Nat.add_assoc, h, ih, mv_mv]
    congr 1
    show _ = c * ((a : Int) + 1)
    rw [Int.mul_add, Int.mul_one]
theorem En.span_turn (hU : 0 < U) (h5 : ∀ r ∈ R, Row5 r) {m : Nat} (h : LTurn (ringKeys U S R) m) (hl : 0 < R.length) {n : Int} (hn : n * ((R.length / m : Nat) : Int) = S) : ∀ i, En S R (i + m) = mv n (En S R i) := by
  obtain ⟨c, hc⟩ := En.turn hU h5 h hl
  have hmod := h.rot.1
  rw [keys_len] at hmod
  have hq : R.length / m * m = R.length := Nat.div_mul_cancel (Nat.dvd_of_mod_eq_zero hmod)
  have q0 : 0 < R.length / m := (turn_le hl h keys_len).2
  have h1 := En.turns hc h5 hl 0 (R.length / m)
  rw [hq, En.span hl] at h1
  have h2 := congrArg (fun r => r.getD 0 0) h1
  have h2 : (En S R 0).getD 0 0 + S = (En S R 0).getD 0 0 + c * ((R.length / m : Nat) : Int) := h2
  have e : c = n := by
    have h3 : c * ((R.length / m : Nat) : Int) = n * ((R.length / m : Nat) : Int) := by omega
    exact Int.eq_of_mul_eq_mul_right (by omega) h3
  rw [← e]
  exact hc
theorem ob_take (hU : 0 < U) (h5 : ∀ r ∈ R, Row5 r) {m : Nat} (h : LTurn (ringKeys U S R) m) (hl : 0 < R.length) {n : Int} (hn : n * ((R.length / m : Nat) : Int) = S) (r : Row) : Ob n (R.take m) r ↔ Ob S R r := by
  have ht := En.turns (En.span_turn hU h5 h hl hn) h5 hl
  have hmod := h.rot.1
  rw [keys_len] at hmod
  have hq : R.length / m * m = R.length := Nat.div_mul_cancel (Nat.dvd_of_mod_eq_zero hmod)
  have q0 : 0 < R.length / m := (turn_le hl h keys_len).2
  have hm := h.pos
  have ml : m ≤ R.length := (turn_le hl h keys_len).1
  generalize R.length / m = q at *
  constructor
  · rintro ⟨w, hw, j, rfl⟩
    obtain ⟨i, hi⟩ := List.getElem?_of_mem hw
    rw [List.getElem?_take] at hi
    split at hi
    · rename_i im
      have ei : En S R i = w := by rw [En.lt h5 (by omega)]; exact getD_at hi
      -- j = q * k + a
      have q1 : (0 : Int) < q := by omega
      have da := Int.emod_add_mul_ediv j q
      have a0 := Int.emod_nonneg j (Int.ne_of_gt q1)
      have a1 := Int.emod_lt_of_pos j q1
      obtain ⟨a, ha⟩ : ∃ a : Nat, j % (q : Int) = a := ⟨(j % (q : Int)).toNat, by omega⟩
      rw [ha] at da a0 a1
      have hlt : i + a * m < R.length := by
        have : a + 1 ≤ q := by omega
        have h6 := Nat.mul_le_mul_right m this
        rw [hq, Nat.add_mul, Nat.one_mul] at h6
        omega
      refine ⟨R.getD (i + a * m) [], getD_mem hlt, j / (q : Int), ?_⟩
      rw [← En.lt h5 hlt, ht i a, ei, mv_mv, ← hn]
      congr 1
      rw [← da]
      have : ((a : Int) + q * (j / (q : Int))) / (q : Int) = j / (q : Int) := by rw [da]
      rw [this, Int.mul_add, Int.mul_assoc]
    · cases hi
  · rintro ⟨w, hw, j, rfl⟩
    obtain ⟨i, hi⟩ := List.getElem?_of_mem hw
    have il := (List.getElem?_eq_some_iff.mp hi).1
    have ei : En S R i = w := by rw [En.lt h5 il]; exact getD_at hi
    have dm := Nat.div_add_mod i m
    have mm := Nat.mod_lt i hm
    have e2 : En S R i = mv (n * ((i / m : Nat) : Int)) (En S R (i % m)) := by
      rw [← ht (i % m) (i / m)]
      congr 1
      rw [Nat.mul_comm]
      omega
    have e3 := En.lt (S := S) h5 (show i % m < R.length by omega)
    rw [e3] at e2
    refine ⟨R.getD (i % m) [], ?_, (i / m : Nat) + q * j, ?_⟩
    · have : (R.take m)[i % m]? = some (R.getD (i % m) []) := by
        rw [List.getElem?_take, if_pos mm, List.getElem?_eq_getElem (by omega), List.getD_eq_getElem?_getD, List.getElem?_eq_getElem (by omega)]
        rfl
      exact List.mem_of_getElem? this
    · rw [← ei, e2, mv_mv, ← hn]
      congr 1
      rw [Int.mul_add, Int.mul_assoc]
end
/-- the copies of a tune's marks are those of the ring -/
theorem form_ob {U n : Int} {m : Nat} {R : List Row} (hU : 0 < U) (r : Row) : Ob (n * nb U n) (formRows U n m R) r ↔ Ob n (R.take m) r := by
  have hb : 0 < nb U n := (norm_mk (n := n) (Int.ne_of_gt hU)).pos
  constructor
  · rintro ⟨w, hw, j, rfl⟩
    obtain ⟨t, _, hw⟩ := List.mem_flatMap.mp hw
    obtain ⟨v, hv, rfl⟩ := List.mem_map.mp hw
    refine ⟨v, hv, (t : Int) + nb U n * j, ?_⟩
    rw [mv_mv, Int.mul_add, Int.mul_assoc]
  · rintro ⟨w, hw, j, rfl⟩
    have a0 := Int.emod_nonneg j (Int.ne_of_gt hb)
    have a1 := Int.emod_lt_of_pos j hb
    have da := Int.emod_add_mul_ediv j (nb U n)
    obtain ⟨a, ha⟩ : ∃ a : Nat, j % (nb U n) = a := ⟨(j % (nb U n)).toNat, by omega⟩
    refine ⟨mv (n * (a : Int)) w, List.mem_flatMap.mpr ⟨a, List.mem_range.mpr (by omega), List.mem_map.mpr ⟨w, hw, rfl⟩⟩, j / nb U n, ?_⟩
    rw [mv_mv]
    congr 1
    rw [← ha, Int.mul_assoc, ← Int.mul_add, da]
theorem form_span {U n : Int} (hU : 0 < U) : nt U n * U = n * nb U n := (norm_mk (n := n) (Int.ne_of_gt hU)).eq
/-- what a tune's marks show, and that its parts are longest -/
theorem tune_nf {U S n : Int} {m : Nat} {L : List Row} (hU : 0 < U) (hS : 0 < S) (h5 : ∀ r ∈ L, Row5 r) (hne : ringOf U S L ≠ []) (h : LTurn (ringKeys U S (ringOf U S L)) m) (hn : n * (((ringOf U S L).length / m : Nat) : Int) = S) :
    NF (Ob (nt U n * U) (formRows U n m (ringOf U S L))) ∧ ∀ {t b e k : Int}, Shw (Ob (nt U n * U) (formRows U n m (ringOf U S L))) t b e k ↔ Shw (Ob S L) t b e k := by
  have e : ∀ r, Ob (nt U n * U) (formRows U n m (ringOf U S L)) r ↔ Ob S (ringOf U S L) r := fun r => by
    rw [form_span hU]
    exact (form_ob hU r).trans (ob_take hU (ring_row5 hU h5) h (List.length_pos_iff.mpr hne) hn r)
  exact ⟨(ring_nf hU hS h5).congr e, (shw_congr e).trans (ring_shw hU h5)⟩
/-! ### the law's own defs: unit, grain, rows -/
theorem smb {z : Int} (h1 : -1237940039285380274899124224 ≤ z) (h2 : z ≤ 1237940039285380274899124224) : Sm 100 z := by
  unfold Sm
  omega
theorem cmw {a b : Int} (ha : Sm 100 a) (hb : Sm 100 b) : CMulW a b := Sm.cmul (k := 100) (j := 100) ha hb
theorem cmwk {k : Nat} {a b : Int} (ha : Sm k a) (hb : Sm 100 b) (hk : k ≤ 1000 := by decide) : CMulW a b := Sm.cmul (k := 1000) (j := 100) (ha.mono hk) hb
def spUt : Sp := fun vs H Q _ => ∃ d : Int, vs = [.int d] ∧ 0 ≤ d ∧ d < 41668 ∧ ∀ c : Int, 1 ≤ c → c ≤ 10417 → Q (.int (c * 46656 * 1000003)) H
abbrev sUt : Stmt := top 104
theorem scUt : FnScope ["_law_draw"] ["_law_draw"] (defScope sUt) := ⟨rfl, rfl, rfl, by decide +kernel, rfl, by decide +kernel, by decide +kernel⟩
theorem ok_unit {f : Addr} {fd : FuncData} (F : Fun K "_law_unit" "_law_unit" sUt f fd) : FnOk P w K mg base CX0 1 f fd ["_law_draw"] spUt := by
  refine F.ok scUt (fun vs H Q E h => ?_) (fun cdv A outer s H vs Q E hr h => ?_)
  · obtain ⟨d, rfl, _⟩ := h
    rfl
  · obtain ⟨d, rfl, h0, h1, k⟩ := h
    refine ⟨_, (pss_cons (ps_if (pt_cmpR op_eq (pe_op op_mod (pv 0) pe_int) pe_int (nomark _)) (pss_one (ps_ret (pe_op op_mulW (pe_op op_mulW (pe_op op_add pe_int (pe_op op_mod (pe_op op_fdivNW (pv 0) pe_int) pe_int)) pe_int) pe_int))) pss_nil)
 (pss_one (ps_ret (pe_op op_mulW (pe_op op_mulW pe_int pe_int) pe_int)))), ?_⟩
    have m4 := Int.emod_nonneg (d.fdiv 4) (show (10417 : Int) ≠ 0 by decide)
    have m5 := Int.emod_lt_of_pos (d.fdiv 4) (show (0 : Int) < 10417 by decide)
    refine ⟨_, rfl, _, _, rfl, rfl, (by show (0 : Int) < 4; decide), rfl, _, rfl, ite2 (fun c1 => ?_) (fun c1 => ?_)⟩
    · refine ⟨_, rfl, _, _, rfl, rfl, ⟨by decide, by decide⟩, _, _, rfl, rfl, (by show (0 : Int) < 10417; decide), _, _, rfl, rfl, _, _, rfl, rfl, cmw (smb (by omega) (by omega)) (smb (by decide) (by decide)), _, _, rfl, rfl, cmw (smb (by omega) (by omega)) (smb (by decide) (by decide)), k _ (by omega) (by omega)⟩
    · exact ⟨_, _, rfl, rfl, cmw (smb (by decide) (by decide)) (smb (by decide) (by decide)), _, _, rfl, rfl, cmw (smb (by decide) (by decide)) (smb (by decide) (by decide)), k 12 (by decide) (by decide)⟩
def spGr : Sp := fun vs H Q _ => ∃ c : Int, vs = [.int (c * 46656 * 1000003)] ∧ 1 ≤ c ∧ c ≤ 10417 ∧ ∀ g : Int, 1 ≤ g → g ≤ c → Q (.int (g * (46656 * 1000003))) H
abbrev sGr : Stmt := top 106
theorem scGr : FnScope ["_law_unit_here"] ["_law_unit_here"] (defScope sGr) := ⟨rfl, rfl, rfl, by decide +kernel, rfl, by decide +kernel, by decide +kernel⟩
structure Tx3 (K : PySem.W.Frag) (mg : Str → Option Value) : Prop where
  max : mg "max" = none
theorem ok_grain {f : Addr} {fd : FuncData} (F : Fun K "_law_grain" "_law_grain" sGr f fd) (TX : Tx3 K mg) : FnOk P w K mg base CX0 1 f fd ["_law_unit_here"] spGr := by
  refine F.ok scGr (fun vs H Q E h => ?_) (fun cdv A outer s H vs Q E hr h => ?_)
  · obtain ⟨c, rfl, _⟩ := h
    rfl
  · obtain ⟨c, rfl, h0, h1, k⟩ := h
    refine ⟨_, (pss_one (ps_ret (pe_op op_mulW (pe_callB (call_max2 rfl) rfl TX.max PyProof.Rows.boot_max (pa_cons pe_int (pa_cons (pe_op op_fdivNW (pv 0) (pe_op op_mulW (pe_op op_mulW pe_int pe_int) pe_int)) pa_nil))) (pe_op op_mulW pe_int pe_int)))), ?_⟩
    have e1 : (c * 46656 * 1000003).fdiv (4 * 46656 * 1000003) = c / 4 := by
      rw [Int.fdiv_eq_ediv_of_nonneg _ (by decide)]
      omega
    refine ⟨_, rfl, _, _, rfl, rfl, cmw (smb (by decide) (by decide)) (smb (by decide) (by decide)), _, _, rfl, rfl, cmw (smb (by decide) (by decide)) (smb (by decide) (by decide)), _, _, rfl, rfl, (smb (z := 4 * 46656 * 1000003) (by decide) (by decide)).cdiv (by decide), _, _, rfl, ?_⟩
    rw [e1]
    have hg : 1 ≤ (if c / 4 > 1 then c / 4 else 1) ∧ (if c / 4 > 1 then c / 4 else 1) ≤ c := by split <;> omega
    generalize (if c / 4 > 1 then c / 4 else 1) = g at *
    exact ⟨_, _, rfl, rfl, cmw (smb (by decide) (by decide)) (smb (by decide) (by decide)), _, _, rfl, rfl, cmw (smb (by omega) (by omega)) (smb (by decide) (by decide)), k g hg.1 hg.2⟩
/-- a law's row: tone, begin, end, low, high -/
def LRowK (n : Nat) (r : List Int) : Prop := ∃ k b e lo hi : Int, r = [k, b, e, lo, hi] ∧ b ≤ lo ∧ lo < hi ∧ hi ≤ e ∧ Sm n k ∧ Sm n b ∧ Sm n e
/-- its times lie within so many rounds of 0 -/
def Near (U m : Int) (r : List Int) : Prop := -(m * U) ≤ r.getD 1 0 ∧ r.getD 2 0 ≤ m * U
theorem Near.mono {U m m' : Int} {r : List Int} (hU : 0 ≤ U) (h : Near U m r) (hm : m ≤ m') : Near U m' r := by
  have := Int.mul_le_mul_of_nonneg_right hm hU
  exact ⟨by have := h.1; omega, by have := h.2; omega⟩
abbrev LRow : List Int → Prop := LRowK 200
/-- its part is no shorter than 6 -/
def Wide (r : List Int) : Prop := r.getD 3 0 + 6 ≤ r.getD 4 0
theorem LRowK.mono {n m : Nat} {r : List Int} (h : LRowK n r) (hm : n ≤ m) : LRowK m r := by
  obtain ⟨k, b, e, lo, hi, rfl, h1, h2, h3, sk, sb, se⟩ := h
  exact ⟨k, b, e, lo, hi, rfl, h1, h2, h3, sk.mono hm, sb.mono hm, se.mono hm⟩
def lrow (r : List Int) : Row := [r.getD 3 0, r.getD 4 0, r.getD 1 0, r.getD 2 0, r.getD 0 0]
theorem LRowK.row {n : Nat} {r : List Int} (h : LRowK n r) : Row5 (lrow r) := by
  obtain ⟨k, b, e, lo, hi, rfl, h1, h2, h3, _⟩ := h
  exact ⟨lo, hi, b, e, k, rfl, h1, h2, h3⟩
theorem sm_mid {k : Nat} {a b c : Int} (h1 : a ≤ b) (h2 : b ≤ c) (ha : Sm k a) (hc : Sm k c) : Sm k b := by
  unfold Sm at *
  omega
theorem LRowK.sm {n : Nat} {r : List Int} (h : LRowK n r) : SmR n (lrow r) := by
  obtain ⟨k, b, e, lo, hi, rfl, h1, h2, h3, sk, sb, se⟩ := h
  intro x hx
  have slo := sm_mid h1 (show lo ≤ e by omega) sb se
  have shi := sm_mid (show b ≤ hi by omega) h3 sb se
  have hx : x ∈ [lo, hi, b, e, k] := hx
  simp only [List.mem_cons, List.not_mem_nil, or_false] at hx
  rcases hx with rfl | rfl | rfl | rfl | rfl <;> assumption
theorem sq0 {x : Int} {k : Nat} (h0 : 0 ≤ x) {y : Int} (h : x ≤ y) (hy : Sm k y) : Sm k x := hy.le (by omega)
abbrev sOn : Stmt := top 107
theorem scOn : FnScope ["_law_row_here", "_law_at", "_law_period", "_law_unit_here", "_law_grain_here", "_law_many", "_law_tone", "_law_begin", "_law_length", "_law_edges"] ["_law_row_here", "_law_at", "_law_period", "_law_unit_here"] (defScope sOn) := ⟨rfl, rfl, rfl, by decide +kernel, rfl, by decide +kernel, by decide +kernel⟩
/-- the row's numbers from at on are below these -/
structure Cells (ys : List Int) (at_ : Nat) (bs : List Int) : Prop where
  is : ∀ (i : Nat) (b : Int), bs[i]? = some b → ∃ y, ys[at_ + i]? = some y ∧ 0 ≤ y ∧ y < b
def spOn (K : PySem.W.Frag) : Sp := fun vs H Q _ => ∃ (a : Addr) (ys : List Int) (at_ : Nat) (z c : Int), vs = [.ref a, .int at_, .int z, .int (c * 46656 * 1000003)] ∧ SqL K H a (ys.map V.int) ∧ Cells ys at_ [10 ^ 9, 10 ^ 9, 10 ^ 6, 10] ∧ 1 ≤ z ∧ z ≤ 1000 ∧ 1 ≤ c ∧ c ≤ 10417 ∧
  ∀ (r : List Int) (v : V) (H' : Hp), LRowK 160 r → Wide r → Near (c * 46656 * 1000003) (z + 6) r → Ex H H' → TuI r v H' → Q v H'
theorem edge_mid {b l e0 e1 : Int} (h : (e0 = 0 ∧ e1 = 4) ∨ (e0 = 0 ∧ e1 = 2) ∨ (e0 = 2 ∧ e1 = 4) ∨ (e0 = 1 ∧ e1 = 3) ∨ (e0 = 0 ∧ e1 = 1) ∨ (e0 = 3 ∧ e1 = 4) ∨ (e0 = 0 ∧ e1 = 3) ∨ (e0 = 1 ∧ e1 = 4) ∨ (e0 = 1 ∧ e1 = 2)) (hl : 40 ≤ l) : b ≤ b + (l * e0).fdiv 4 ∧ b + (l * e0).fdiv 4 + 6 ≤ b + (l * e1).fdiv 4 ∧ b + (l * e1).fdiv 4 ≤ b + l := by
  rw [Int.fdiv_eq_ediv_of_nonneg _ (by decide), Int.fdiv_eq_ediv_of_nonneg _ (by decide)]
  rcases h with ⟨rfl, rfl⟩ | ⟨rfl, rfl⟩ | ⟨rfl, rfl⟩ | ⟨rfl, rfl⟩ | ⟨rfl, rfl⟩ | ⟨rfl, rfl⟩ | ⟨rfl, rfl⟩ | ⟨rfl, rfl⟩ | ⟨rfl, rfl⟩ <;> omega
theorem emod_le_self {a b : Int} (ha : 0 ≤ a) (hb : 0 < b) : a % b ≤ a := by
  rw [Int.emod_def]
  have := Int.mul_nonneg (Int.le_of_lt hb) (Int.ediv_nonneg ha (Int.le_of_lt hb))
  omega
theorem ok_one {f : Addr} {fd : FuncData} (F : Fun K "_law_one" "_law_one" sOn f fd) (OG : Ok P w K mg base CX0 1 "_law_grain" ["_law_unit_here"] spGr) : FnOk P w K mg base CX0 2 f fd ["_law_row_here", "_law_at", "_law_period", "_law_unit_here"] (spOn K) := by
  obtain ⟨fGr, fdGr, GGr, mGr, kGr, bGr⟩ := OG
  refine F.ok scOn (fun vs H Q E h => ?_) (fun cdv A outer s H vs Q E hr h => ?_)
  · obtain ⟨a, ys, at_, z, c, rfl, _⟩ := h
    rfl
  · obtain ⟨a, ys, at_, z, c, rfl, ha, hC, z1, z2, c1, c2, k⟩ := h
    have hG : Room 1 _ := hr
    obtain ⟨y0, g0, l0, u0⟩ := hC.is 0 _ rfl
    obtain ⟨y1, g1, l1, u1⟩ := hC.is 1 _ rfl
    obtain ⟨y2, g2, l2, u2⟩ := hC.is 2 _ rfl
    obtain ⟨y3, g3, l3, u3⟩ := hC.is 3 _ rfl
    have at_i : ∀ (i : Nat) (y : Int), ys[at_ + i]? = some y → atI (ys.map V.int) ((at_ : Int) + i) = some (.int y) := fun i y e => atI_nat (j := at_ + i) (by rw [List.getElem?_map, e]; rfl)
    have a0 := at_i 0 y0 g0
    rw [show ((at_ : Int) + (0 : Nat)) = at_ by omega] at a0
    have a1 := at_i 1 y1 g1
    have a2 := at_i 2 y2 g2
    have a3 := at_i 3 y3 g3
    refine ⟨_, (pss_cons (ps_set (i := 4) scOn.nd rfl (Or.inl rfl) (pe_call GGr hG rfl mGr kGr bGr .nil pass0 (pa_cons (pv 3) pa_nil)))
 (pss_cons (ps_set (i := 5) scOn.nd rfl (Or.inl rfl) (pe_op op_fdivNW (pv 3) (pv 4)))
 (pss_cons (ps_set (i := 6) scOn.nd rfl (Or.inl rfl) (pe_op op_mod (pe_ix ix_list (pv 0) (pv 1) (fun _ _ => rfl)) pe_int))
 (Evl.pss_cut (ps_if (pt_cmpR op_eq (pe_op op_mod (pe_ix ix_list (pv 0) (pv 1) (fun _ _ => rfl)) pe_int) pe_int (nomark _)) (pss_one (ps_set (i := 6) scOn.nd rfl (Or.inl rfl) (pe_op op_sub (pe_ix ix_list (pv 0) (pv 1) (fun _ _ => rfl)) pe_int))) pss_nil)
 (pss_cons (ps_set (i := 7) scOn.nd rfl (Or.inl rfl) (pe_op op_mulW (pe_op op_sub (pe_op op_mod (pe_ix ix_list (pv 0) (pe_op op_add (pv 1) pe_int) (fun _ _ => rfl)) (pe_op op_mulW (pe_op op_add (pv 2) pe_int) (pv 5))) (pv 5)) (pv 4)))
 (Evl.pss_cut (ps_set (i := 8) scOn.nd rfl (Or.inl rfl) (pe_op op_mulW (pe_op op_add pe_int (pe_op op_mod (pe_ix ix_list (pv 0) (pe_op op_add (pv 1) pe_int) (fun _ _ => rfl)) (pe_op op_mulW pe_int (pv 5)))) (pv 4)))
 (pss_cons (ps_set (i := 9) scOn.nd rfl (Or.inl rfl) (pe_ix ix_list (pe_lst (pa_cons (pe_tup (pa_cons pe_int (pa_cons pe_int pa_nil))) (pa_cons (pe_tup (pa_cons pe_int (pa_cons pe_int pa_nil))) (pa_cons (pe_tup (pa_cons pe_int (pa_cons pe_int pa_nil))) (pa_cons (pe_tup (pa_cons pe_int (pa_cons pe_int pa_nil))) (pa_cons (pe_tup (pa_cons pe_int (pa_cons pe_int pa_nil))) (pa_cons (pe_tup (pa_cons pe_int (pa_cons pe_int pa_nil))) (pa_cons (pe_tup (pa_cons pe_int (pa_cons pe_int pa_nil))) (pa_cons (pe_tup (pa_cons pe_int (pa_cons pe_int pa_nil))) (pa_cons (pe_tup (pa_cons pe_int (pa_cons pe_int pa_nil))) (pa_cons (pe_tup (pa_cons pe_int (pa_cons pe_int pa_nil))) pa_nil))))))))))) (pe_ix ix_list (pv 0) (pe_op op_add (pv 1) pe_int) (fun _ _ => rfl)) (fun _ _ => rfl)))
 (pss_one (ps_ret (pe_tup (pa_cons (pv 6) (pa_cons (pv 7) (pa_cons (pe_op op_add (pv 7) (pv 8)) (pa_cons (pe_op op_add (pv 7) (pe_op op_fdivNW (pe_op op_mulW (pv 8) (pe_ix ix_tup (pv 9) pe_int (fun _ _ => rfl))) pe_int)) (pa_cons (pe_op op_add (pv 7) (pe_op op_fdivNW (pe_op op_mulW (pv 8) (pe_ix ix_tup (pv 9) pe_int (fun _ _ => rfl))) pe_int)) pa_nil))))))))))))))), ?_⟩
    refine ⟨_, rfl, c, rfl, c1, c2, fun g hg1 hg2 => ?_⟩
    -- many
    have hU : (0 : Int) ≤ c * 46656 * 1000003 := by omega
    have hg0 : (0 : Int) < g * (46656 * 1000003) := by omega
    have sgr : Sm 50 (g * (46656 * 1000003)) := by unfold Sm; omega
    refine ⟨_, rfl, _, rfl, _, _, rfl, rfl, sgr.cdiv (Int.ne_of_gt hg0), ?_⟩
    have hmg : (c * 46656 * 1000003).fdiv (g * (46656 * 1000003)) * (g * (46656 * 1000003)) ≤ c * 46656 * 1000003 := by
      rw [Int.fdiv_eq_ediv_of_nonneg _ (Int.le_of_lt hg0)]
      exact Int.ediv_mul_le _ (Int.ne_of_gt hg0)
    have hmany : 1 ≤ (c * 46656 * 1000003).fdiv (g * (46656 * 1000003)) ∧ (c * 46656 * 1000003).fdiv (g * (46656 * 1000003)) ≤ 1000000000000000 := by
      rw [Int.fdiv_eq_ediv_of_nonneg _ (Int.le_of_lt hg0)]
      constructor
      · refine Int.le_ediv_of_mul_le hg0 ?_
        omega
      · refine Int.le_trans (Int.ediv_le_self _ hU) ?_
        omega
    obtain ⟨m1, m2⟩ := hmany
    refine ⟨_, rfl, _, rfl, a, _, _, _, rfl, rfl, ha, a0, _, _, rfl, rfl, (by show (0 : Int) < 3; decide), ?_⟩
    refine ⟨fun σ H' => ∃ tn : Int, σ = [some (.ref a), some (.int at_), some (.int z), some (.int (c * 46656 * 1000003)), some (.int (g * (46656 * 1000003))), some (.int ((c * 46656 * 1000003).fdiv (g * (46656 * 1000003)))), some (.int tn), none, none, none] ∧ H' = H ∧ Sm 80 tn, ?_, ?_⟩
    · refine ⟨_, rfl, _, rfl, a, _, _, _, rfl, rfl, ha, a0, _, _, rfl, rfl, (by show (0 : Int) < 11; decide), rfl, _, rfl, ite2 (fun _ => ?_) (fun _ => ?_)⟩
      · exact ⟨_, rfl, _, rfl, a, _, _, _, rfl, rfl, ha, a0, _, _, rfl, rfl, y0 - 500000000, rfl, rfl, by unfold Sm; omega⟩
      · have t0 := Int.emod_nonneg y0 (show (3 : Int) ≠ 0 by decide)
        have t1 := Int.emod_lt_of_pos y0 (show (0 : Int) < 3 by decide)
        exact ⟨y0 % 3, rfl, rfl, by unfold Sm; omega⟩
    · rintro σ H' ⟨tn, rfl, rfl, stn⟩
      generalize (c * 46656 * 1000003).fdiv (g * (46656 * 1000003)) = many at *
      have sm0 : Sm 52 many := by unfold Sm; omega
      have sz2 : Sm 11 (z + 2) := by unfold Sm; omega
      have sper : Sm 63 ((z + 2) * many) := sz2.mul sm0
      have pper : 0 < (z + 2) * many := Int.mul_pos (by omega) (by omega)
      have p0 := Int.emod_nonneg y1 (Int.ne_of_gt pper)
      have p1 := Int.emod_lt_of_pos y1 pper
      have sy : Sm 30 (y1 % ((z + 2) * many)) := by
        have h5 := emod_le_self l1 pper
        generalize y1 % ((z + 2) * many) = w at *
        unfold Sm
        omega
      have sb1 : Sm 53 (y1 % ((z + 2) * many) - many) := Sm.sub (sy.mono (by decide)) sm0
      have sb : Sm 103 ((y1 % ((z + 2) * many) - many) * (g * (46656 * 1000003))) := sb1.mul sgr
      have p3 : 0 < 3 * many := by omega
      have q0 := Int.emod_nonneg y2 (Int.ne_of_gt p3)
      have q1 : y2 % (3 * many) ≤ y2 := emod_le_self l2 p3
      have sl1 : Sm 30 (1 + y2 % (3 * many)) := by unfold Sm; omega
      have sl : Sm 80 ((1 + y2 % (3 * many)) * (g * (46656 * 1000003))) := sl1.mul sgr
      have ll : 40 ≤ (1 + y2 % (3 * many)) * (g * (46656 * 1000003)) := by
        have h6 := Int.mul_le_mul_of_nonneg_right (show (1 : Int) ≤ 1 + y2 % (3 * many) by omega) (Int.le_of_lt hg0)
        omega
      have near : -(c * 46656 * 1000003) ≤ (y1 % ((z + 2) * many) - many) * (g * (46656 * 1000003)) ∧ (y1 % ((z + 2) * many) - many) * (g * (46656 * 1000003)) ≤ (z + 2) * (c * 46656 * 1000003) ∧ (1 + y2 % (3 * many)) * (g * (46656 * 1000003)) ≤ 3 * (c * 46656 * 1000003) := by
        have hy2 := Int.emod_lt_of_pos y2 p3
        generalize y1 % ((z + 2) * many) = w at *
        generalize y2 % (3 * many) = w2 at *
        generalize g * (46656 * 1000003) = G at *
        generalize c * 46656 * 1000003 = U at *
        have i1 := Int.mul_nonneg p0 (Int.le_of_lt hg0)
        have i2 := Int.mul_le_mul_of_nonneg_right (Int.le_of_lt p1) (Int.le_of_lt hg0)
        have i3 := Int.mul_le_mul_of_nonneg_left hmg (show 0 ≤ z + 2 by omega)
        have i4 := Int.mul_le_mul_of_nonneg_right (show 1 + w2 ≤ 3 * many by omega) (Int.le_of_lt hg0)
        have i5 := Int.mul_pos (show 0 < many by omega) hg0
        rw [Int.mul_assoc] at i2 i4
        rw [Int.sub_mul]
        refine ⟨by omega, by omega, by omega⟩
      refine ⟨_, rfl, _, rfl, _, _, rfl, rfl, a, _, _, _, rfl, rfl, ha, a1, _, rfl, _, _, rfl, rfl, _, rfl, _, _, rfl, rfl, cmwk (k := 11) sz2 (sm0.mono (by decide)), _, _, rfl, rfl, pper, _, rfl, _, _, rfl, rfl, _, rfl, _, _, rfl, rfl, cmwk sb1 (sgr.mono (by decide)), ?_⟩
      refine ⟨fun σ H2 => σ = [some (.ref a), some (.int at_), some (.int z), some (.int (c * 46656 * 1000003)), some (.int (g * (46656 * 1000003))), some (.int many), some (.int tn), some (.int ((y1 % ((z + 2) * many) - many) * (g * (46656 * 1000003)))), some (.int ((1 + y2 % (3 * many)) * (g * (46656 * 1000003)))), none] ∧ H2 = H', ?_, ?_⟩
      · exact ⟨_, rfl, _, rfl, _, _, rfl, rfl, a, _, _, _, rfl, rfl, ha, a2, _, rfl, _, _, rfl, rfl, cmwk (k := 3) (by unfold Sm; decide) (sm0.mono (by decide)), _, _, rfl, rfl, p3, _, _, rfl, rfl, _, rfl, _, _, rfl, rfl, cmwk sl1 (sgr.mono (by decide)), rfl, rfl⟩
      rintro σ H2 ⟨rfl, e2⟩
      cases e2
      generalize (y1 % ((z + 2) * many) - many) * (g * (46656 * 1000003)) = bg at *
      generalize (1 + y2 % (3 * many)) * (g * (46656 * 1000003)) = ln at *
      refine ⟨by show 2 ≤ sizeLine; decide, fun t0 n0 => ?_⟩
      have E0 : Ex H' (upd H' t0 (.tup [.int 0, .int 4])) := Ex.new n0
      have f0 : (upd H' t0 (.tup [.int 0, .int 4])) t0 = some (.tup [.int 0, .int 4]) := upd_same
      generalize upd H' t0 (.tup [.int 0, .int 4]) = H0 at *
      refine ⟨by show 2 ≤ sizeLine; decide, fun t1 n1 => ?_⟩
      have E1 : Ex H0 (upd H0 t1 (.tup [.int 0, .int 4])) := Ex.new n1
      have f1 : (upd H0 t1 (.tup [.int 0, .int 4])) t1 = some (.tup [.int 0, .int 4]) := upd_same
      generalize upd H0 t1 (.tup [.int 0, .int 4]) = H1 at *
      refine ⟨by show 2 ≤ sizeLine; decide, fun t2 n2 => ?_⟩
      have E2 : Ex H1 (upd H1 t2 (.tup [.int 0, .int 2])) := Ex.new n2
      have f2 : (upd H1 t2 (.tup [.int 0, .int 2])) t2 = some (.tup [.int 0, .int 2]) := upd_same
      generalize upd H1 t2 (.tup [.int 0, .int 2]) = H2 at *
      refine ⟨by show 2 ≤ sizeLine; decide, fun t3 n3 => ?_⟩
      have E3 : Ex H2 (upd H2 t3 (.tup [.int 2, .int 4])) := Ex.new n3
      have f3 : (upd H2 t3 (.tup [.int 2, .int 4])) t3 = some (.tup [.int 2, .int 4]) := upd_same
      generalize upd H2 t3 (.tup [.int 2, .int 4]) = H3 at *
      refine ⟨by show 2 ≤ sizeLine; decide, fun t4 n4 => ?_⟩
      have E4 : Ex H3 (upd H3 t4 (.tup [.int 1, .int 3])) := Ex.new n4
      have f4 : (upd H3 t4 (.tup [.int 1, .int 3])) t4 = some (.tup [.int 1, .int 3]) := upd_same
      generalize upd H3 t4 (.tup [.int 1, .int 3]) = H4 at *
      refine ⟨by show 2 ≤ sizeLine; decide, fun t5 n5 => ?_⟩
      have E5 : Ex H4 (upd H4 t5 (.tup [.int 0, .int 1])) := Ex.new n5
      have f5 : (upd H4 t5 (.tup [.int 0, .int 1])) t5 = some (.tup [.int 0, .int 1]) := upd_same
      generalize upd H4 t5 (.tup [.int 0, .int 1]) = H5 at *
      refine ⟨by show 2 ≤ sizeLine; decide, fun t6 n6 => ?_⟩
      have E6 : Ex H5 (upd H5 t6 (.tup [.int 3, .int 4])) := Ex.new n6
      have f6 : (upd H5 t6 (.tup [.int 3, .int 4])) t6 = some (.tup [.int 3, .int 4]) := upd_same
      generalize upd H5 t6 (.tup [.int 3, .int 4]) = H6 at *
      refine ⟨by show 2 ≤ sizeLine; decide, fun t7 n7 => ?_⟩
      have E7 : Ex H6 (upd H6 t7 (.tup [.int 0, .int 3])) := Ex.new n7
      have f7 : (upd H6 t7 (.tup [.int 0, .int 3])) t7 = some (.tup [.int 0, .int 3]) := upd_same
      generalize upd H6 t7 (.tup [.int 0, .int 3]) = H7 at *
      refine ⟨by show 2 ≤ sizeLine; decide, fun t8 n8 => ?_⟩
      have E8 : Ex H7 (upd H7 t8 (.tup [.int 1, .int 4])) := Ex.new n8
      have f8 : (upd H7 t8 (.tup [.int 1, .int 4])) t8 = some (.tup [.int 1, .int 4]) := upd_same
      generalize upd H7 t8 (.tup [.int 1, .int 4]) = H8 at *
      refine ⟨by show 2 ≤ sizeLine; decide, fun t9 n9 => ?_⟩
      have E9 : Ex H8 (upd H8 t9 (.tup [.int 1, .int 2])) := Ex.new n9
      have f9 : (upd H8 t9 (.tup [.int 1, .int 2])) t9 = some (.tup [.int 1, .int 2]) := upd_same
      generalize upd H8 t9 (.tup [.int 1, .int 2]) = H9 at *
      refine ⟨by show 10 ≤ sizeLine; decide, fun l nl => ?_⟩
      have EL : Ex H9 (upd H9 l (.lst [.ref t0, .ref t1, .ref t2, .ref t3, .ref t4, .ref t5, .ref t6, .ref t7, .ref t8, .ref t9])) := Ex.new nl
      have fl : (upd H9 l (.lst [.ref t0, .ref t1, .ref t2, .ref t3, .ref t4, .ref t5, .ref t6, .ref t7, .ref t8, .ref t9])) l = some (.lst [.ref t0, .ref t1, .ref t2, .ref t3, .ref t4, .ref t5, .ref t6, .ref t7, .ref t8, .ref t9]) := upd_same
      generalize upd H9 l (.lst [.ref t0, .ref t1, .ref t2, .ref t3, .ref t4, .ref t5, .ref t6, .ref t7, .ref t8, .ref t9]) = HL at *
      have r9 := (EL) _ _ f9
      have r8 := (E9.trans (EL)) _ _ f8
      have r7 := (E8.trans (E9.trans (EL))) _ _ f7
      have r6 := (E7.trans (E8.trans (E9.trans (EL)))) _ _ f6
      have r5 := (E6.trans (E7.trans (E8.trans (E9.trans (EL))))) _ _ f5
      have r4 := (E5.trans (E6.trans (E7.trans (E8.trans (E9.trans (EL)))))) _ _ f4
      have r3 := (E4.trans (E5.trans (E6.trans (E7.trans (E8.trans (E9.trans (EL))))))) _ _ f3
      have r2 := (E3.trans (E4.trans (E5.trans (E6.trans (E7.trans (E8.trans (E9.trans (EL)))))))) _ _ f2
      have r1 := (E2.trans (E3.trans (E4.trans (E5.trans (E6.trans (E7.trans (E8.trans (E9.trans (EL))))))))) _ _ f1
      have r0 := (E1.trans (E2.trans (E3.trans (E4.trans (E5.trans (E6.trans (E7.trans (E8.trans (E9.trans (EL)))))))))) _ _ f0
      have EA : Ex H' HL := E0.trans (E1.trans (E2.trans (E3.trans (E4.trans (E5.trans (E6.trans (E7.trans (E8.trans (E9.trans (EL))))))))))
      obtain ⟨t, d0, d1, hat, ht, hed⟩ : ∃ (t : Addr) (d0 d1 : Int), atI [V.ref t0, V.ref t1, V.ref t2, V.ref t3, V.ref t4, V.ref t5, V.ref t6, V.ref t7, V.ref t8, V.ref t9] y3 = some (.ref t) ∧ HL t = some (.tup [.int d0, .int d1]) ∧ ((d0 = 0 ∧ d1 = 4) ∨ (d0 = 0 ∧ d1 = 2) ∨ (d0 = 2 ∧ d1 = 4) ∨ (d0 = 1 ∧ d1 = 3) ∨ (d0 = 0 ∧ d1 = 1) ∨ (d0 = 3 ∧ d1 = 4) ∨ (d0 = 0 ∧ d1 = 3) ∨ (d0 = 1 ∧ d1 = 4) ∨ (d0 = 1 ∧ d1 = 2)) := by
        clear hC at_i a0 a1 a2 g0 g1 g2 g3 a3
        rcases (show y3 = 0 ∨ y3 = 1 ∨ y3 = 2 ∨ y3 = 3 ∨ y3 = 4 ∨ y3 = 5 ∨ y3 = 6 ∨ y3 = 7 ∨ y3 = 8 ∨ y3 = 9 by omega) with rfl | rfl | rfl | rfl | rfl | rfl | rfl | rfl | rfl | rfl
        · exact ⟨t0, 0, 4, atI_nat (j := 0) rfl, r0, by decide⟩
        · exact ⟨t1, 0, 4, atI_nat (j := 1) rfl, r1, by decide⟩
        · exact ⟨t2, 0, 2, atI_nat (j := 2) rfl, r2, by decide⟩
        · exact ⟨t3, 2, 4, atI_nat (j := 3) rfl, r3, by decide⟩
        · exact ⟨t4, 1, 3, atI_nat (j := 4) rfl, r4, by decide⟩
        · exact ⟨t5, 0, 1, atI_nat (j := 5) rfl, r5, by decide⟩
        · exact ⟨t6, 3, 4, atI_nat (j := 6) rfl, r6, by decide⟩
        · exact ⟨t7, 0, 3, atI_nat (j := 7) rfl, r7, by decide⟩
        · exact ⟨t8, 1, 4, atI_nat (j := 8) rfl, r8, by decide⟩
        · exact ⟨t9, 1, 2, atI_nat (j := 9) rfl, r9, by decide⟩
      refine ⟨_, rfl, _, rfl, _, _, rfl, rfl, a, _, _, _, rfl, rfl, ha.ex' EA, a3, l, _, _, _, rfl, rfl, SqL.of fl, hat, ?_⟩
      obtain ⟨v1, v2, v3⟩ := edge_mid (b := bg) hed ll
      have sd0 : Sm 100 d0 := by unfold Sm; omega
      have sd1 : Sm 100 d1 := by unfold Sm; omega
      refine ⟨_, rfl, _, rfl, _, rfl, _, rfl, _, _, rfl, rfl, _, rfl, _, rfl, _, rfl, t, _, _, _, rfl, rfl, SqT.of ht, at0, _, _, rfl, rfl, cmwk sl sd0, _, _, rfl, rfl, ⟨by decide, by decide⟩, _, _, rfl, rfl, _, rfl, _, rfl, _, rfl, t, _, _, _, rfl, rfl, SqT.of ht, at1, _, _, rfl, rfl, cmwk sl sd1, _, _, rfl, rfl, ⟨by decide, by decide⟩, _, _, rfl, rfl, by show 5 ≤ sizeLine; decide, fun p np => ?_⟩
      exact k [tn, bg, bg + ln, bg + (ln * d0).fdiv 4, bg + (ln * d1).fdiv 4] _ _ ⟨_, _, _, _, _, rfl, v1, by omega, v3, stn.mono (by decide), sb.mono (by decide), Sm.mono ((sb.mono (show 103 ≤ 150 by decide)).add (sl.mono (by decide))) (by decide)⟩ v2 ⟨by show _ ≤ bg; rw [Int.add_mul] at *; omega, by show bg + ln ≤ _; rw [Int.add_mul] at *; omega⟩ (EA.trans (Ex.new np)) ⟨p, rfl, upd_same⟩
/-! ### the law's tunes, as rows -/
def blk : List Int := [10 ^ 9, 10 ^ 9, 10 ^ 6, 10]
def fsz (n : Nat) : List Int := [12, 2520] ++ (List.replicate n blk).flatten
theorem fsz_succ (n : Nat) : fsz (n + 1) = fsz n ++ blk := by
  unfold fsz
  rw [List.replicate_succ', List.flatten_append, List.append_assoc]
  simp
theorem fsz_len (n : Nat) : (fsz n).length = 2 + 4 * n := by
  induction n with
  | zero => rfl
  | succ n ih => rw [fsz_succ, List.length_append, ih]; show 2 + 4 * n + 4 = _; omega
theorem fsz_at {n k i : Nat} (hk : k < n) (hi : i < 4) : (fsz n)[2 + (4 * k + i)]? = blk[i]? := by
  induction n with
  | zero => omega
  | succ n ih =>
    rw [fsz_succ]
    by_cases c : k < n
    · rw [List.getElem?_append_left (by rw [fsz_len]; omega)]
      exact ih c
    · rw [List.getElem?_append_right (by rw [fsz_len]; omega), fsz_len]
      congr 1
      omega
/-- period and rows -/
def FiR (z : Int) (L : List (List Int)) (v : V) (H : Hp) : Prop := ∃ (p a : Addr) (vs : List V), v = .ref p ∧ H p = some (.tup [.int z, .ref a]) ∧ H a = some (.lst vs) ∧ Al TuI H L vs
theorem FiR.ex {z : Int} {L : List (List Int)} {v : V} {H H' : Hp} (h : FiR z L v H) (e : Ex H H') : FiR z L v H' := by
  obtain ⟨p, a, vs, rfl, h1, h2, h3⟩ := h
  exact ⟨p, a, vs, rfl, e _ _ h1, e _ _ h2, alI_ex h3 e⟩
theorem al_set {α : Type} {P : α → V → Hp → Prop} {H : Hp} {as : List α} {vs : List V} {a : α} {v : V} (h : Al P H as vs) (hp : P a v H) {i : Nat} : Al P H (as.set i a) (vs.set i v) := by
  induction h generalizing i with
  | nil => exact .nil
  | cons h t ih =>
    cases i with
    | zero => exact .cons hp t
    | succ i => exact .cons h ih
theorem ixN_nat {n i : Nat} (h : i < n) : ixN n (i : Int) = some i := by
  unfold ixN
  rw [if_pos (by omega), if_pos (by omega)]
  rfl
abbrev sFi : Stmt := top 108
theorem scFi : FnScope ["_law_row_here", "_law_at", "_law_most", "_law_count", "_law_unit_here", "_law_period", "_law_rows", "_law_tone", "_law_begin", "_law_end", "_law_low", "_law_high", "_law_k"] ["_law_row_here", "_law_at", "_law_most", "_law_count", "_law_unit_here"] (defScope sFi) := ⟨rfl, rfl, rfl, by decide +kernel, rfl, by decide +kernel, by decide +kernel⟩
def spFi (K : PySem.W.Frag) : Sp := fun vs H Q _ => ∃ (a : Addr) (ys : List Int) (at_ : Nat) (m : Int) (n : Nat) (c : Int), vs = [.ref a, .int at_, .int m, .int n, .int (c * 46656 * 1000003)] ∧ SqL K H a (ys.map V.int) ∧ Cells ys at_ (fsz n) ∧ 1 ≤ m ∧ m ≤ 1000 ∧ n ≤ 9 ∧ 1 ≤ c ∧ c ≤ 10417 ∧
  ∀ (z : Int) (L : List (List Int)) (v : V) (H' : Hp), 1 ≤ z → z ≤ m → L.length ≤ n → (∀ r ∈ L, LRowK 161 r ∧ Near (c * 46656 * 1000003) (m + 8) r ∧ Wide r) → Ex H H' → FiR z L v H' → Q v H'
theorem ok_fill {f : Addr} {fd : FuncData} (F : Fun K "_law_fill" "_law_fill" sFi f fd) (T : Txt K mg C) (OG : Ok P w K mg base CX0 1 "_law_grain" ["_law_unit_here"] spGr) (OO : Ok P w K mg base CX0 2 "_law_one" ["_law_row_here", "_law_at", "_law_period", "_law_unit_here"] (spOn K)) : FnOk P w K mg base CX0 3 f fd ["_law_row_here", "_law_at", "_law_most", "_law_count", "_law_unit_here"] (spFi K) := by
  obtain ⟨fGr, fdGr, GGr, mGr, kGr, bGr⟩ := OG
  obtain ⟨fOn, fdOn, GOn, mOn, kOn, bOn⟩ := OO
  refine F.ok scFi (fun vs H Q E h => ?_) (fun cdv A outer s H vs Q E hr h => ?_)
  · obtain ⟨a, ys, at_, m, n, c, rfl, _⟩ := h
    rfl
  · obtain ⟨a, ys, at_, m, n, c, rfl, ha, hC, m1, m2, n9, c1, c2, k⟩ := h
    have hG : Room 1 _ := hr.mono (by decide)
    have hO : Room 2 _ := hr
    obtain ⟨y0, g0, l0, u0⟩ := hC.is 0 12 rfl
    obtain ⟨y1, g1, l1, u1⟩ := hC.is 1 2520 rfl
    have a0 : atI (ys.map V.int) ((at_ : Int)) = some (.int y0) := atI_nat (j := at_) (by rw [List.getElem?_map, show ys[at_]? = some y0 from g0]; rfl)
    have a1 : atI (ys.map V.int) ((at_ : Int) + 1) = some (.int y1) := atI_nat (j := at_ + 1) (by rw [List.getElem?_map, g1]; rfl)
    have z0 := Int.emod_nonneg y0 (show m ≠ 0 by omega)
    have z1 := Int.emod_lt_of_pos y0 (show 0 < m by omega)
    have q0 := Int.emod_nonneg y1 (show (n : Int) + 1 ≠ 0 by omega)
    have q1 := Int.emod_lt_of_pos y1 (show 0 < (n : Int) + 1 by omega)
    refine ⟨_, (pss_cons (ps_set (i := 5) scFi.nd rfl (Or.inr rfl) (pe_op op_add pe_int (pe_op op_mod (pe_ix ix_list (pv 0) (pv 1) (fun _ _ => rfl)) (pv 2))))
 (pss_cons (ps_setLc (i := 6) (own := [("_law_k", 12)]) rfl scFi.nd rfl rfl rfl (pi_range1 rfl T.range (pa_cons (pe_op op_mod (pe_ix ix_list (pv 0) (pe_op op_add (pv 1) pe_int) (fun _ _ => rfl)) (pe_op op_add (pv 3) pe_int)) pa_nil)) (blkOk_by (N := ["_law_row_here", "_law_at", "_law_most", "_law_count", "_law_unit_here", "_law_period", "_law_rows", "_law_tone", "_law_begin", "_law_end", "_law_low", "_law_high", "_law_k"]) (sc := defScope sFi) (by decide +kernel)) (fun _ _ _ _ _ => pg_name (i := 12) scFi.nd rfl (Or.inl rfl)) (fun _ _ _ _ _ => pts_nil) (fun _ _ _ _ _ => (pe_call GOn hO rfl mOn kOn bOn .nil pass0 (pa_cons (pv 0) (pa_cons (pe_op op_add (pe_op op_add (pv 1) pe_int) (pe_op op_mulW pe_int (pv 12))) (pa_cons (pv 5) (pa_cons (pv 4) pa_nil)))))))
 (pss_cons (ps_if (PW.pt (pw_and (pt_cmpR op_gt (pe_callB call_len rfl T.len PySem.boot_len (pa_cons (pv 6) pa_nil)) pe_int (nomark _)) (pw_and1 (pt_cmpR op_eq (pe_op op_mod (pe_op op_fdivNW (pe_ix ix_list (pv 0) (pe_op op_add (pv 1) pe_int) (fun _ _ => rfl)) pe_int) pe_int) pe_int (nomark _))))) (pss_cons (ps_asg (pe_ix ix_list (pv 6) pe_int (fun _ _ => rfl)) (pg_tup rfl (pgs_cons (pg_name (i := 7) scFi.nd rfl (Or.inl rfl)) (pgs_cons (pg_name (i := 8) scFi.nd rfl (Or.inl rfl)) (pgs_cons (pg_name (i := 9) scFi.nd rfl (Or.inl rfl)) (pgs_cons (pg_name (i := 10) scFi.nd rfl (Or.inl rfl)) (pgs_cons (pg_name (i := 11) scFi.nd rfl (Or.inl rfl)) pgs_nil)))))))
 (pss_one (ps_asg (pe_tup (pa_cons (pv 7) (pa_cons (pv 8) (pa_cons (pe_op op_add (pv 9) (pe_call GGr hG rfl mGr kGr bGr .nil pass0 (pa_cons (pv 4) pa_nil))) (pa_cons (pv 10) (pa_cons (pv 11) pa_nil)))))) (pg_sub (pv 6) pe_int set_list)))) pss_nil)
 (pss_one (ps_ret (pe_tup (pa_cons (pv 5) (pa_cons (pv 6) pa_nil)))))))), ?_⟩
    refine ⟨_, rfl, _, rfl, a, _, _, _, rfl, rfl, ha, a0, _, rfl, _, _, rfl, rfl, (by show 0 < m; omega), _, _, rfl, rfl, ?_⟩
    refine ⟨_, rfl, _, rfl, _, _, rfl, rfl, a, _, _, _, rfl, rfl, ha, a1, _, rfl, _, _, rfl, rfl, _, _, rfl, rfl, (by show 0 < (n : Int) + 1; omega), y1 % ((n : Int) + 1), rfl, by omega, by omega, fun D hD => ?_⟩
    refine lc_range (fun j H' => Ex H H' ∧ ∃ L vs, H' D = some (.lst vs) ∧ Al TuI H' L vs ∧ L.length = j ∧ ∀ r ∈ L, LRowK 160 r ∧ Near (c * 46656 * 1000003) (m + 7) r ∧ Wide r) ⟨Ex.new hD, [], [], upd_same, .nil, rfl, fun r hr => (nomatch hr)⟩ ?_ ?_
    · rintro j H1 hj ⟨e1, L, vs, hv, hL, lL, lr⟩
      have hC2 : Cells ys (at_ + 2 + 4 * j) [10 ^ 9, 10 ^ 9, 10 ^ 6, 10] := ⟨fun i b hb => by
        have hi : i < 4 := (List.getElem?_eq_some_iff.mp hb).1
        have := hC.is (2 + (4 * j + i)) b (by rw [fsz_at (by omega) hi]; exact hb)
        rw [show at_ + (2 + (4 * j + i)) = at_ + 2 + 4 * j + i by omega] at this
        exact this⟩
      have lv := hL.len
      have eA : ((at_ : Int) + 2 + 4 * ((0 : Int) + (j : Nat))) = ((at_ + 2 + 4 * j : Nat) : Int) := by omega
      refine ⟨rfl, _, rfl, _, rfl, _, _, rfl, rfl, _, rfl, _, _, rfl, rfl, cmwk (k := 3) (by unfold Sm; decide) (smb (by omega) (by omega)), _, _, rfl, rfl, _, rfl, _, rfl, a, ys, at_ + 2 + 4 * j, 1 + y0 % m, c, ?_, ha.ex' e1, hC2, by omega, by omega, c1, c2, fun r v H2 lr2 wr2 nr2 e2 t2 => ?_⟩
      · rw [← eA]
        rfl
      have hv2 := e2 _ _ hv
      have s2 := St.lst (o := .lst (vs ++ [v])) hv2
      refine ⟨vs, hv2, line_lt (by omega), Evl.Ex.mut (e1.trans e2) hD, L ++ [r], vs ++ [v], upd_same, (alI_st (alI_ex hL e2) s2).snoc (t2.st s2), by rw [List.length_append, lL]; rfl, fun q hq => ?_⟩
      rcases List.mem_append.mp hq with hq | hq
      · exact lr q hq
      · rw [List.mem_singleton.mp hq]
        exact ⟨lr2, nr2.mono (by omega) (by omega), wr2⟩
    · rintro H1 ⟨e1, L, vs, hv, hL, lL, lr⟩
      have lv := hL.len
      have fin : ∀ (H2 : Hp) (L2 : List (List Int)) (vs2 : List V), Ex H H2 → H2 D = some (.lst vs2) → Al TuI H2 L2 vs2 → L2.length = L.length → (∀ r ∈ L2, LRowK 161 r ∧ Near (c * 46656 * 1000003) (m + 8) r ∧ Wide r) → ∀ p, H2 p = none → Q (.ref p) (upd H2 p (.tup [.int (1 + y0 % m), .ref D])) := fun H2 L2 vs2 e2 h2 a2 l2 r2 p np => by
        have ep : Ex H2 (upd H2 p (.tup [.int (1 + y0 % m), .ref D])) := Ex.new np
        exact k (1 + y0 % m) L2 _ _ (by omega) (by omega) (by omega) r2 (e2.trans ep) ⟨p, D, vs2, rfl, upd_same, ep _ _ h2, alI_ex a2 ep⟩
      refine ⟨_, rfl, _, _, rfl, .inl ⟨_, SqL.of hv, rfl⟩, _, _, rfl, rfl, _, rfl, ite2 (fun w1 => ?_) (fun w1 => ?_)⟩
      · have w1 : 1 < L.length := by
          have := of_decide_eq_true w1
          rw [lv] at this
          omega
        refine ⟨_, rfl, _, rfl, _, _, rfl, rfl, a, _, _, _, rfl, rfl, ha.ex' e1, a1, _, _, rfl, rfl, ⟨by decide, by decide⟩, _, _, rfl, rfl, (by show (0 : Int) < 3; decide), rfl, _, rfl, ite2 (fun w2 => ?_) (fun w2 => ?_)⟩
        · have r0 := List.getElem?_eq_getElem (show 0 < L.length by omega)
          obtain ⟨v0, hv0, t0⟩ := hL.get r0
          obtain ⟨k0, b0, e0, lo0, hi0, er0, o1, o2, o3, sk, sb, se⟩ := (lr _ (List.mem_of_getElem? r0)).1
          have n0 := (lr _ (List.mem_of_getElem? r0)).2.1
          have w0 := (lr _ (List.mem_of_getElem? r0)).2.2
          rw [er0] at t0 n0 w0
          obtain ⟨p0, rfl, hp0⟩ := t0
          refine ⟨_, rfl, D, _, _, _, rfl, rfl, SqL.of hv, atI_nat (j := 0) hv0, p0, _, rfl, SqT.of hp0, rfl, _, _, rfl, _, _, rfl, _, _, rfl, _, _, rfl, _, _, rfl, rfl, ?_⟩
          refine ⟨_, rfl, _, rfl, _, rfl, _, rfl, c, rfl, c1, c2, fun g w3 w4 => ⟨_, _, rfl, rfl, _, rfl, _, rfl, by show 5 ≤ sizeLine; decide, fun p np => ?_⟩⟩
          have ep : Ex H1 (upd H1 p (.tup [.int k0, .int b0, .int (e0 + g * (46656 * 1000003)), .int lo0, .int hi0])) := Ex.new np
          have hv3 := ep _ _ hv
          have hl1 : 1 < vs.length := by omega
          refine ⟨_, rfl, D, _, _, 1, rfl, rfl, hv3, ixN_nat hl1, ?_⟩
          have s3 := St.lst (o := .lst (vs.set 1 (.ref p))) hv3
          have ne : p ≠ D := (ne_of_none hv np).symm
          refine ⟨_, rfl, _, rfl, by show 2 ≤ sizeLine; decide, fin _ (L.set 1 [k0, b0, e0 + g * (46656 * 1000003), lo0, hi0]) (vs.set 1 (.ref p)) (Evl.Ex.mut (e1.trans ep) hD) upd_same ?_ (List.length_set ..) ?_⟩
          · exact al_set (alI_st (alI_ex hL ep) s3) ⟨p, rfl, by rw [upd_ne ne]; exact upd_same⟩
          · intro q hq
            rcases List.mem_or_eq_of_mem_set hq with hq | rfl
            · exact ⟨(lr q hq).1.mono (by decide), (lr q hq).2.1.mono (by omega) (by omega), (lr q hq).2.2⟩
            · have sg : Sm 160 (g * (46656 * 1000003)) := Sm.mono (k := 50) (by unfold Sm; omega) (by decide)
              have n1 : -((m + 7) * (c * 46656 * 1000003)) ≤ b0 := n0.1
              have n2 : e0 ≤ (m + 7) * (c * 46656 * 1000003) := n0.2
              refine ⟨⟨k0, b0, _, lo0, hi0, rfl, o1, o2, by omega, sk.mono (by decide), sb.mono (by decide), (se.add sg).mono (by decide)⟩, ⟨?_, ?_⟩, w0⟩
              · show _ ≤ b0
                rw [Int.add_mul] at *
                omega
              · show e0 + g * (46656 * 1000003) ≤ _
                rw [Int.add_mul] at *
                omega
        · exact ⟨_, rfl, _, rfl, by show 2 ≤ sizeLine; decide, fin H1 L vs e1 hv hL rfl fun r hr => ⟨(lr r hr).1.mono (by decide), (lr r hr).2.1.mono (by omega) (by omega), (lr r hr).2.2⟩⟩
      · exact ⟨_, rfl, _, rfl, by show 2 ≤ sizeLine; decide, fin H1 L vs e1 hv hL rfl fun r hr => ⟨(lr r hr).1.mono (by decide), (lr r hr).2.1.mono (by omega) (by omega), (lr r hr).2.2⟩⟩
theorem mkU_at {C CN x dx : Addr} {U n : Int} {H : Hp} {Q : VK} {E : XK} (hU : Un U) (s : Sm 390 n) (n1 : H x = none) (n2 : H dx = none) (n3 : dx ≠ x) (k : ∀ H' : Hp, Ex H H' → MU C U n (.ref x) H' → Q .non H') :
    spInit C CN [.ref x, .int n, .int U] (upd (upd H dx (.own x)) x (.ins C dx [])) Q E :=
  ⟨x, dx, n, U, rfl, upd_same, s.mono (by decide), hU.sm.mono (by decide), fun z => absurd z (Int.ne_of_gt hU.pos), fun _ t b N => k _ (made_ok t b n1 n2 n3).1 ⟨⟨t, b, N, (made_ok t b n1 n2 n3).2⟩, s⟩⟩
abbrev sSz : Stmt := top 109
theorem scSz : FnScope ["_law_count", "_law_out", "_law_k"] ["_law_count"] (defScope sSz) := ⟨rfl, rfl, rfl, by decide +kernel, rfl, by decide +kernel, by decide +kernel⟩
def spSz : Sp := fun vs H Q _ => ∃ n : Nat, vs = [.int n] ∧ n ≤ 9 ∧ ∀ (p : Addr) (H' : Hp), Ex H H' → H' p = some (.lst ((fsz n).map V.int)) → Q (.ref p) H'
theorem ok_sizes {f : Addr} {fd : FuncData} (F : Fun K "_law_fill_sizes" "_law_fill_sizes" sSz f fd) (T : Txt K mg C) : FnOk P w K mg base CX0 1 f fd ["_law_count"] spSz := by
  refine F.ok scSz (fun vs H Q E h => ?_) (fun cdv A outer s H vs Q E hr h => ?_)
  · obtain ⟨n, rfl, _⟩ := h
    rfl
  · obtain ⟨n, rfl, hn, k⟩ := h
    refine ⟨_, (pss_cons (ps_set (i := 1) scSz.nd rfl (Or.inl rfl) (pe_lst (pa_cons pe_int (pa_cons pe_int pa_nil))))
 (pss_cons (ps_for PassesOwn.never rfl (pi_range1 rfl T.range (pa_cons (pv 0) pa_nil)) (pg_name (i := 2) scSz.nd rfl (Or.inl rfl)) (pss_one (ps_set (i := 1) scSz.nd rfl (Or.inl rfl) (pe_op op_cat (pv 1) (pe_lst (pa_cons (pe_op op_pow pe_int pe_int) (pa_cons (pe_op op_pow pe_int pe_int) (pa_cons (pe_op op_pow pe_int pe_int) (pa_cons pe_int pa_nil)))))))))
 (pss_one (ps_ret (pv 1))))), ?_⟩
    refine ⟨by show 2 ≤ sizeLine; decide, fun o ho => ?_⟩
    refine ⟨_, rfl, (n : Int), rfl, by omega, by omega, for_range (lo := 0) (n := ((n : Int)).toNat) (fun i σ H' => ∃ (q : Addr) (v : Option V), σ = [some (.int n), some (.ref q), v] ∧ Ex H H' ∧ H' q = some (.lst ((fsz i).map V.int))) ⟨o, none, rfl, Ex.new ho, upd_same⟩ ?_ ?_⟩
    · rintro i σ H1 hi ⟨q, v, rfl, e1, hq⟩
      refine ⟨_, rfl, _, _, rfl, rfl, ⟨by decide, by decide, by decide⟩, _, _, rfl, rfl, ⟨by decide, by decide, by decide⟩, _, _, rfl, rfl, ⟨by decide, by decide, by decide⟩, by show 4 ≤ sizeLine; decide, fun l hl => ?_⟩
      have el : Ex H1 (upd H1 l (.lst (blk.map V.int))) := Ex.new hl
      refine ⟨q, l, _, _, rfl, rfl, el _ _ hq, upd_same, line_of (by rw [List.length_map, fsz_len]; show 2 + 4 * i + 4 ≤ _; omega), fun p np => ?_⟩
      refine ⟨p, _, rfl, e1.trans (el.trans (Ex.new np)), ?_⟩
      rw [upd_same, fsz_succ, List.map_append]
      rfl
    · rintro σ H1 ⟨q, v, rfl, e1, hq⟩
      exact ⟨_, rfl, k q H1 e1 hq⟩
abbrev sLk : Stmt := top 110
theorem scLk : FnScope ["_law_rows", "_law_unit_here", "_law_out", "_law_tone", "_law_begin", "_law_end", "_law_low", "_law_high"] ["_law_rows", "_law_unit_here"] (defScope sLk) := ⟨rfl, rfl, rfl, by decide +kernel, rfl, by decide +kernel, by decide +kernel⟩
def spLk (CM C : Addr) : Sp := fun vs H Q _ => ∃ (U : Int) (L : List (List Int)) (v : V), vs = [v, .int U] ∧ Un U ∧ LoI L v H ∧ (∀ r ∈ L, LRow r) ∧ L.length ≤ 1000 ∧ ∀ (p : Addr) (zs : List V) (H' : Hp), Ex H H' → H p = none → H' p = some (.lst zs) → Al (MrU CM C U) H' (L.map lrow) zs → Q (.ref p) H'
theorem ok_lmarks {CM CK fK fM f : Addr} {fd fdM : FuncData} (F : Fun K "_law_marks" "_law_marks" sLk f fd) (T : Txt K mg C) (OI : OkI P w K mg base C CN) (TK : TxtK K mg CM CK fK) (MkM : Mk K CM fM) (GM : FnOk P w K mg base (L2.CX P w) 9 fM fdM psMk (spMark CM C CK)) (FM : FMk K fM fdM) : FnOk P w K mg base CX0 11 f fd ["_law_rows", "_law_unit_here"] (spLk CM C) := by
  obtain ⟨mv3, bM3⟩ := mk_k3 FM
  obtain ⟨fI, fdI, dsI, GI, MkC, bI, vI1, bI1⟩ := OI
  refine F.ok scLk (fun vs H Q E h => ?_) (fun cdv A outer s H vs Q E hr h => ?_)
  · obtain ⟨U, L, v, rfl, _⟩ := h
    rfl
  · obtain ⟨U, L, v, rfl, hU, ⟨a, xs, rfl, ha, hx⟩, hL, hlen, k⟩ := h
    have lx := hx.len
    have h10 : Room 10 _ := hr
    refine ⟨_, (pss_cons (ps_set (i := 2) scLk.nd rfl (Or.inl rfl) (pe_lst pa_nil))
 (pss_cons (ps_for PassesOwn.never rfl (pi_list (pv 0)) (pg_tup rfl (pgs_cons (pg_name (i := 3) scLk.nd rfl (Or.inl rfl)) (pgs_cons (pg_name (i := 4) scLk.nd rfl (Or.inl rfl)) (pgs_cons (pg_name (i := 5) scLk.nd rfl (Or.inl rfl)) (pgs_cons (pg_name (i := 6) scLk.nd rfl (Or.inl rfl)) (pgs_cons (pg_name (i := 7) scLk.nd rfl (Or.inl rfl)) pgs_nil)))))) (pss_cons (ps_set (i := 6) scLk.nd rfl (Or.inl rfl) (pe_make MkC GI (hr.mono (by decide)) rfl T.mgC bI .nil passL (pa_cons (pv 6) (pa_cons (pv 1) pa_nil))))
 (pss_one (ps_expr (pe_bm PySem.F.plainAttrs_list PySem.F.slot_list_append PySem.F.type_list_append mt_append (pv 2) (pa_cons (pe_makeK (E := E0) MkM GM h10 rfl TK.mgM bM3 passL (pa_cons (pv 3) (pa_cons (pe_make MkC GI (hr.mono (by decide)) rfl T.mgC bI .nil passL (pa_cons (pv 4) (pa_cons (pv 1) pa_nil))) (pa_cons (pe_make MkC GI (hr.mono (by decide)) rfl T.mgC bI .nil passL (pa_cons (pv 5) (pa_cons (pv 1) pa_nil))) pa_nil))) (pk_cons (pv 6) (pk_cons (pe_make MkC GI (hr.mono (by decide)) rfl T.mgC bI .nil passL (pa_cons (pv 7) (pa_cons (pv 1) pa_nil))) pk_nil))) pa_nil))))))
 (pss_one (ps_ret (pv 2))))), ?_⟩
    refine ⟨by show 0 ≤ sizeLine; decide, fun o ho => ?_⟩
    have eo : Ex H (upd H o (.lst [])) := Ex.new ho
    refine ⟨_, rfl, a, rfl, ⟨_, SqL.of (eo _ _ ha)⟩, for_list (K := K) (a := a) (xs := xs) (fun i σ H' => ∃ v3 v4 v5 v6 v7 zs, σ = [some (.ref a), some (.int U), some (.ref o), v3, v4, v5, v6, v7] ∧ Ex H H' ∧ H' o = some (.lst zs) ∧ Al (MrU CM C U) H' ((L.take i).map lrow) zs)
      ⟨none, none, none, none, none, [], rfl, eo, upd_same, .nil⟩ (fun i σ H' _ ⟨_, _, _, _, _, _, _, e, _⟩ => SqL.of (e _ _ ha)) ?_ ?_⟩
    · rintro i x σ H1 hi ⟨v3, v4, v5, v6, v7, zs, rfl, e1, hz, hA⟩
      obtain ⟨r, hr1, hr2⟩ := hx.getV hi
      have tk : L.take (i + 1) = L.take i ++ [r] := by
        rw [List.take_succ, hr1]
        rfl
      have lr := hL r (List.mem_of_getElem? hr1)
      obtain ⟨k0, b0, e0, lo, hi0, rfl, o1, o2, o3, sk, sb, se⟩ := lr
      have slo : Sm 390 lo := (sm_mid o1 (show lo ≤ e0 by omega) sb se).mono (by decide)
      have shi : Sm 390 hi0 := (sm_mid (show b0 ≤ hi0 by omega) o3 sb se).mono (by decide)
      obtain ⟨q, rfl, hq⟩ := hr2.ex e1
      have lz := hA.len
      rw [List.length_map, List.length_take] at lz
      refine ⟨q, _, rfl, SqT.of hq, rfl, _, _, rfl, _, _, rfl, _, _, rfl, _, _, rfl, _, _, rfl, rfl, ?_⟩
      refine ⟨_, rfl, _, rfl, fun x1 d1 i1 i2 i3 => mkU_at hU slo i1 i2 i3 fun H2 e2 m1 => ⟨rfl, ?_⟩⟩
      refine ⟨_, rfl, .inl ⟨rfl, _, SqL.of (e2 _ _ hz)⟩, _, rfl, _, rfl, _, rfl, fun x1 d1 i1 i2 i3 => mkU_at hU (sb.mono (by decide)) i1 i2 i3 fun H3 e3 m2 => ⟨rfl, ?_⟩⟩
      refine ⟨_, rfl, _, rfl, fun x1 d1 i1 i2 i3 => mkU_at hU (se.mono (by decide)) i1 i2 i3 fun H4 e4 m3 => ⟨rfl, ?_⟩⟩
      refine ⟨_, rfl, _, rfl, _, rfl, fun x1 d1 i1 i2 i3 => mkU_at hU shi i1 i2 i3 fun H5 e5 m4 => ⟨rfl, rfl, rfl, ?_⟩⟩
      intro x dx f1 f2 f3
      refine mark_rdU (CM := CM) (CK := CK) (k := k0) hU (m1.ex (e3.trans (e4.trans e5))) m4 (m2.ex (e4.trans e5)) (m3.ex e5) o1 o2 o3 f1 f2 f3 fun H6 e6 mk => ⟨rfl, ?_⟩
      have e26 := e2.trans (e3.trans (e4.trans (e5.trans e6)))
      have hz6 := e26 _ _ hz
      have s7 := St.lst (o := .lst (zs ++ [V.ref x])) hz6
      have S := (St.of e26).trans s7
      refine ⟨o, zs, _, rfl, rfl, hz6, line_lt (by omega), ?_⟩
      refine ⟨_, _, _, _, _, _, rfl, Evl.Ex.mut (e1.trans e26) ho, upd_same, ?_⟩
      rw [tk, List.map_append]
      exact (hA.map fun r v h => h.st S).snoc (mk.st s7)
    · rintro σ H1 ⟨v3, v4, v5, v6, v7, zs, rfl, e1, hz, hA⟩
      rw [lx, List.take_length] at hA
      exact ⟨_, rfl, k o zs H1 e1 ho hz hA⟩
/-! ### the tune of rows -/
theorem ring_sm {U S : Int} {L : List Row} (hS : 0 < S) (sS : Sm 380 S) (h : ∀ r ∈ L, SmR 380 r) : ∀ r ∈ ringOf U S L, SmR 384 r := fun r hr => by
  have h1 : ∀ r ∈ homeL S L, SmR 382 r := sub_size (k := 380) (i := 2) (by decide) hS sS h
  have h2 : ∀ r ∈ homedOf U S L, SmR 382 r := fun r hr => long_sm (by decide) h1 r ((asc_perm _).mem_iff.mp hr)
  exact sub_size (k := 382) (i := 0) (by decide) hS (sS.mono (by decide)) h2 r ((asc_perm _).mem_iff.mp hr)
theorem ring_len {U S : Int} {L : List Row} : (ringOf U S L).length ≤ L.length := by
  unfold ringOf homedOf
  rw [(asc_perm _).length_eq]
  unfold ringL
  rw [List.length_map, (asc_perm _).length_eq]
  refine Nat.le_trans (long_len _ _) ?_
  unfold homeL
  rw [List.length_map]
  exact Nat.le_refl _
/-- z', L' is the form of the tune z, L -/
def TuneOf (U z : Int) (L : List Row) (z' : Int) (L' : List Row) : Prop := (ringOf U (z * U) L = [] ∧ z' = 1 ∧ L' = []) ∨
  (ringOf U (z * U) L ≠ [] ∧ ∃ (m : Nat) (n : Int), LTurn (ringKeys U (z * U) (ringOf U (z * U) L)) m ∧ n * (((ringOf U (z * U) L).length / m : Nat) : Int) = z * U ∧ z' = nt U n ∧ L' = formRows U n m (ringOf U (z * U) L))
section
variable {U z z' : Int} {L L' : List Row}
theorem span_facts {n : Int} {m : Nat} {R : List Row} {S : Int} (hU : 0 < U) (hz : 0 < z) (eS : S = z * U) (hne : R ≠ []) (h : LTurn (ringKeys U S R) m) (hn : n * ((R.length / m : Nat) : Int) = S) : 0 < n ∧ 0 < nt U n ∧ nb U n ≤ (R.length / m : Nat) ∧ nt U n * U ≤ S := by
  have hl := List.length_pos_iff.mpr hne
  have q0 := (turn_le hl h keys_len).2
  have hS : 0 < S := by rw [eS]; exact Int.mul_pos hz hU
  have hn0 : 0 < n := by
    refine Int.not_le.mp fun c => ?_
    have h2 : n * ((R.length / m : Nat) : Int) ≤ 0 := Int.mul_nonpos_of_nonpos_of_nonneg c (by omega)
    omega
  have hb := (norm_mk (n := n) (Int.ne_of_gt hU)).pos
  have he := form_span (n := n) hU
  have hq := nb_le (n := n) (q := ((R.length / m : Nat) : Int)) (z := z) hU (by omega) (by rw [hn, eS])
  refine ⟨hn0, ?_, hq, ?_⟩
  · refine Int.not_le.mp fun c => ?_
    have h1 : nt U n * U ≤ 0 := Int.mul_nonpos_of_nonpos_of_nonneg c (Int.le_of_lt hU)
    have h2 : 0 < n * nb U n := Int.mul_pos hn0 hb
    omega
  · rw [he, ← hn]
    exact Int.mul_le_mul_of_nonneg_left hq (Int.le_of_lt hn0)
theorem TuneOf.nf (h : TuneOf U z L z' L') (hU : 0 < U) (hz : 0 < z) (h5 : ∀ r ∈ L, Row5 r) : 0 < z' ∧ NF (Ob (z' * U) L') ∧ ∀ {t b e k : Int}, Shw (Ob (z' * U) L') t b e k ↔ Shw (Ob (z * U) L) t b e k := by
  have hS : 0 < z * U := Int.mul_pos hz hU
  rcases h with ⟨h1, rfl, rfl⟩ | ⟨h1, m, n, h2, h3, rfl, rfl⟩
  · refine ⟨by decide, ⟨fun r ⟨q, hq, _⟩ => (nomatch hq), fun ⟨q, hq, _⟩ _ => (nomatch hq)⟩, fun {t b e k} => ?_⟩
    rw [← ring_shw hU h5, h1]
    constructor
    · rintro ⟨s, p, ⟨q, hq, _⟩, _⟩
      cases hq
    · rintro ⟨s, p, ⟨q, hq, _⟩, _⟩
      cases hq
  · obtain ⟨_, g2, _, _⟩ := span_facts hU hz rfl h1 h2 h3
    obtain ⟨g5, g6⟩ := tune_nf hU hS h5 h1 h2 h3
    exact ⟨g2, g5, g6⟩
theorem TuneOf.sizes (h : TuneOf U z L z' L') (hU : 0 < U) (hz : 0 < z) (sS : Sm 380 (z * U)) (hs : ∀ r ∈ L, SmR 380 r) (hl : L.length ≤ 500000) : Sm 380 (z' * U) ∧ (∀ r ∈ L', SmR 385 r) ∧ L'.length ≤ L.length := by
  have hS : 0 < z * U := Int.mul_pos hz hU
  have hUz : U ≤ z * U := by
    have := Int.mul_le_mul_of_nonneg_right (show (1 : Int) ≤ z by omega) (Int.le_of_lt hU)
    omega
  rcases h with ⟨h1, rfl, rfl⟩ | ⟨h1, m, n, h2, h3, rfl, rfl⟩
  · exact ⟨sS.le (by omega), fun r hr => (nomatch hr), Nat.zero_le _⟩
  · obtain ⟨g1, g2, g3, g4⟩ := span_facts hU hz rfl h1 h2 h3
    have hp : 0 < nt U n * U := Int.mul_pos g2 hU
    have he := form_span (n := n) hU
    refine ⟨sS.le (by omega), fun r hr => ?_, ?_⟩
    · obtain ⟨t, ht, hr⟩ := List.mem_flatMap.mp hr
      obtain ⟨q, hq, rfl⟩ := List.mem_map.mp hr
      have ht := List.mem_range.mp ht
      have sq := ring_sm (U := U) hS sS hs q (List.mem_of_mem_take hq)
      have hb := (norm_mk (n := n) (Int.ne_of_gt hU)).pos
      have hb : 0 < nb U n := hb
      refine SmR.mv (k := 384) (fun i => sq.at_ (by decide) i) ?_
      have h6 : n * (t : Int) ≤ n * nb U n := Int.mul_le_mul_of_nonneg_left (by omega) (Int.le_of_lt g1)
      have h7 : 0 ≤ n * (t : Int) := Int.mul_nonneg (Int.le_of_lt g1) (by omega)
      exact (sS.le (n := n * (t : Int)) (by omega)).mono (by decide)
    · unfold formRows
      rw [form_len]
      have hlen := List.length_pos_iff.mpr h1
      have ml := (turn_le hlen h2 keys_len).1
      have hmod := h2.rot.1
      rw [keys_len] at hmod
      have hq : (ringOf U (z * U) L).length / m * m = (ringOf U (z * U) L).length := Nat.div_mul_cancel (Nat.dvd_of_mod_eq_zero hmod)
      rw [Nat.min_eq_left ml]
      have hle : (nb U n).toNat ≤ (ringOf U (z * U) L).length / m := Int.toNat_le.mpr g3
      refine Nat.le_trans (Nat.mul_le_mul_right m hle) ?_
      rw [hq]
      exact ring_len
end
abbrev sLt2 : Stmt := top 111
theorem scLt2 : FnScope ["_law_fill_here", "_law_unit_here"] ["_law_fill_here", "_law_unit_here"] (defScope sLt2) := ⟨rfl, rfl, rfl, by decide +kernel, rfl, by decide +kernel, by decide +kernel⟩
def spLt2 (CT CM C : Addr) (d : Nat) : Sp := fun vs H Q _ => ∃ (U z : Int) (L : List (List Int)) (v : V), vs = [v, .int U] ∧ Un U ∧ FiR z L v H ∧ (∀ r ∈ L, LRow r) ∧ 1 ≤ z ∧ z ≤ 1000 ∧ Sm 360 U ∧ L.length ≤ 2 ^ d ∧
  ∀ (z' : Int) (L' : List Row) (x : V) (H' : Hp), TuneOf U z (L.map lrow) z' L' → Ex H H' → TuA CT CM C U z' L' x H' → Q x H'
theorem ok_ltune {CT CM CR fT f : Addr} {fd fdT : FuncData} {d : Nat} (F : Fun K "_law_tune" "_law_tune" sLt2 f fd) (hd : d ≤ 9) (TU' : TxtU K mg CT) (MkT : Mk K CT fT) (GT : FnOk P w K mg base (L2.CX P w) (d + 15) fT fdT ["self", "rounds", "marks"] (spTu CT CM C CR d)) (bT : Binds K fdT ["self", "rounds", "marks"] []) (OL : Ok P w K mg base CX0 11 "_law_marks" ["_law_rows", "_law_unit_here"] (spLk CM C)) : FnOk P w K mg base CX0 (d + 17) f fd ["_law_fill_here", "_law_unit_here"] (spLt2 CT CM C d) := by
  obtain ⟨fLk, fdLk, GLk, mLk, kLk, bLk⟩ := OL
  refine F.ok scLt2 (fun vs H Q E h => ?_) (fun cdv A outer s H vs Q E hr h => ?_)
  · obtain ⟨U, z, L, v, rfl, _⟩ := h
    rfl
  · obtain ⟨U, z, L, v, rfl, hU, hF, hL, z1, z2, sU, hlen, k⟩ := h
    have hT : Room (d + 15 + 1) _ := hr
    have hK : Room 11 _ := hr.mono (by omega)
    have big : 2 ^ d ≤ 2 ^ 9 := Nat.pow_le_pow_right (by decide) hd
    obtain ⟨p, a, vs, rfl, hp, ha, hal⟩ := hF
    have sz : Sm 10 z := by unfold Sm; omega
    have sS : Sm 380 (z * U) := (sz.mul sU).mono (by decide)
    refine ⟨_, (pss_one (ps_ret (pe_make MkT GT hT rfl TU'.mgT bT .nil passL (pa_cons (pe_ix ix_tup (pv 0) pe_int (fun _ _ => rfl)) (pa_cons (pe_call GLk hK rfl mLk kLk bLk .nil pass0 (pa_cons (pe_ix ix_tup (pv 0) pe_int (fun _ _ => rfl)) (pa_cons (pv 1) pa_nil))) pa_nil))))), ?_⟩
    refine ⟨_, rfl, p, _, _, _, rfl, rfl, SqT.of hp, at0, _, rfl, p, _, _, _, rfl, rfl, SqT.of hp, at1, _, rfl, U, L, _, rfl, hU, ⟨a, vs, rfl, ha, hal⟩, hL, by omega, fun q zs H1 e1 _ hq hz x dx f1 f2 f3 => ?_⟩
    refine tune_rd (L := L.map lrow) z1 hU hq hz (fun r hr => ?_) (fun r hr => ?_) (by rw [List.length_map]; exact hlen) sS (sz.mono (by decide)) f1 f2 f3 (fun h0 H' e t => ⟨rfl, k _ _ _ _ (.inl ⟨h0, rfl, rfl⟩) (e1.trans e) t⟩) (fun h0 m n H' h2 h3 e t => ⟨rfl, k _ _ _ _ (.inr ⟨h0, m, n, h2, h3, rfl, rfl⟩) (e1.trans e) t⟩)
    · obtain ⟨w, hw, rfl⟩ := List.mem_map.mp hr
      exact (hL w hw).row
    · obtain ⟨w, hw, rfl⟩ := List.mem_map.mp hr
      exact fun x hx => ((hL w hw).sm x hx).mono (by decide)
/-! ### the law's own reading of a tune -/
abbrev sFl : Stmt := top 112
theorem scFl : FnScope ["_law_time", "_law_span", "_law_side"] ["_law_time", "_law_span", "_law_side"] (defScope sFl) := ⟨rfl, rfl, rfl, by decide +kernel, rfl, by decide +kernel, by decide +kernel⟩
/-- which time is looked at: t itself, or the one before it -/
def sd (d t : Int) : Int := if d = 1 then t else t - 1
theorem sd_sub {d t x : Int} : sd d (t - x) = sd d t - x := by
  unfold sd
  split <;> omega
theorem ceil_eq {t S : Int} (hS : 0 < S) : -(-t / S) - 1 = (t - 1) / S := by
  have h1 : (-t / S) * S ≤ -t := (Int.le_ediv_iff_mul_le hS).mp (Int.le_refl _)
  have h2 : -t < (-t / S + 1) * S := (Int.ediv_lt_iff_lt_mul hS).mp (by omega)
  generalize -t / S = q at *
  have h3 : -q - 1 ≤ (t - 1) / S := (Int.le_ediv_iff_mul_le hS).mpr (by
    rw [show (-q - 1) * S = -((q + 1) * S) by rw [← Int.neg_mul]; congr 1; omega]
    omega)
  have h4 : (t - 1) / S < -q := (Int.ediv_lt_iff_lt_mul hS).mpr (by
    rw [Int.neg_mul]
    omega)
  omega
def spFl : Sp := fun vs H Q _ => ∃ t s d : Int, vs = [.int t, .int s, .int d] ∧ (d = 1 ∨ d = -1) ∧ 0 < s ∧ Sm 390 s ∧ Q (.int (sd d t / s)) H
theorem ok_floor {f : Addr} {fd : FuncData} (F : Fun K "_law_floor" "_law_floor" sFl f fd) : FnOk P w K mg base CX0 1 f fd ["_law_time", "_law_span", "_law_side"] spFl := by
  refine F.ok scFl (fun vs H Q E h => ?_) (fun cdv A outer s H vs Q E hr h => ?_)
  · obtain ⟨t, s, d, rfl, _⟩ := h
    rfl
  · obtain ⟨t, s0, d, rfl, hd, h0, sm, k⟩ := h
    refine ⟨_, (pss_cons (ps_if (pt_cmpR op_gt (pv 2) pe_int (nomark _)) (pss_one (ps_ret (pe_op op_fdivNW (pv 0) (pv 1)))) pss_nil)
 (pss_one (ps_ret (pe_op op_sub (pe_un un_neg (pe_op op_fdivNW (pe_un un_neg (pv 0)) (pv 1))) pe_int)))), ?_⟩
    rcases hd with rfl | rfl
    · refine ⟨_, rfl, _, _, rfl, rfl, _, rfl, iteA (by decide) ⟨_, rfl, _, rfl, _, _, rfl, rfl, (sm.mono (show 390 ≤ 9000 by decide)).cdiv (Int.ne_of_gt h0), ?_⟩⟩
      show Q (.int (t.fdiv s0)) H
      rw [Int.fdiv_eq_ediv_of_nonneg _ (Int.le_of_lt h0)]
      exact k
    · refine ⟨_, rfl, _, _, rfl, rfl, _, rfl, iteB (by decide) ⟨_, rfl, _, rfl, _, rfl, _, _, rfl, rfl, (sm.mono (show 390 ≤ 9000 by decide)).cdiv (Int.ne_of_gt h0), _, rfl, _, _, rfl, rfl, ?_⟩⟩
      show Q (.int (-((-t).fdiv s0) - 1)) H
      rw [Int.fdiv_eq_ediv_of_nonneg _ (Int.le_of_lt h0), ceil_eq h0]
      exact k
def turnsOf (S t lo hi : Int) : List Int := (List.range ((t - lo) / S - (t - hi) / S).toNat).map fun i => (t - hi) / S + 1 + (i : Nat)
theorem turns_mem {S t lo hi j : Int} (hS : 0 < S) : j ∈ turnsOf S t lo hi ↔ lo + j * S ≤ t ∧ t < hi + j * S := by
  unfold turnsOf
  have h1 : (t - hi) / S < j ↔ t - hi < j * S := Int.ediv_lt_iff_lt_mul hS
  have h2 : j ≤ (t - lo) / S ↔ j * S ≤ t - lo := Int.le_ediv_iff_mul_le hS
  rw [List.mem_map]
  constructor
  · rintro ⟨i, hi', rfl⟩
    have := List.mem_range.mp hi'
    have g1 := h1.mp (by omega)
    have g2 := h2.mp (by omega)
    omega
  · rintro ⟨g1, g2⟩
    have g3 := h1.mpr (by omega)
    have g4 := h2.mpr (by omega)
    exact ⟨(j - (t - hi) / S - 1).toNat, List.mem_range.mpr (by omega), by omega⟩
abbrev sCp : Stmt := top 113
theorem scCp : FnScope ["_law_one_here", "_law_span", "_law_t", "_law_side", "_law_k"] ["_law_one_here", "_law_span", "_law_t", "_law_side"] (defScope sCp) := ⟨rfl, rfl, rfl, by decide +kernel, rfl, by decide +kernel, by decide +kernel⟩
def spCp : Sp := fun vs H Q _ => ∃ (S t0 d t k b e lo hi : Int) (v : V), vs = [v, .int S, .int t0, .int d] ∧ (d = 1 ∨ d = -1) ∧ t = sd d t0 ∧ TuI [k, b, e, lo, hi] v H ∧ 0 < S ∧ Sm 390 S ∧ -100000 ≤ (t - hi) / S ∧ (t - lo) / S ≤ 100000 ∧ -100000 ≤ (t - lo) / S ∧ (t - hi) / S ≤ 100000 ∧
  ∀ (p : Addr) (H' : Hp), Ex H H' → H' p = some (.lst ((turnsOf S t lo hi).map V.int)) → Q (.ref p) H'
theorem ok_copies {f : Addr} {fd : FuncData} (F : Fun K "_law_copies" "_law_copies" sCp f fd) (T : Txt K mg C) (OF : Ok P w K mg base CX0 1 "_law_floor" ["_law_time", "_law_span", "_law_side"] spFl) : FnOk P w K mg base CX0 2 f fd ["_law_one_here", "_law_span", "_law_t", "_law_side"] spCp := by
  obtain ⟨fFl, fdFl, GFl, mFl, kFl, bFl⟩ := OF
  refine F.ok scCp (fun vs H Q E h => ?_) (fun cdv A outer s H vs Q E hr h => ?_)
  · obtain ⟨S, t0, d, t, k, b, e, lo, hi, v, rfl, _⟩ := h
    rfl
  · obtain ⟨S, t0, d, t, k, b, e, lo, hi, v, rfl, hd0, rfl, ⟨p, rfl, hp⟩, hS, sS, b1, b2, b3, b4, kk⟩ := h
    have hF : Room 1 _ := hr
    refine ⟨_, (pss_cons (ps_if (pt_cmpR op_gt (pv 1) pe_int (nomark _)) (pss_one (ps_ret (pe_lc (own := [("_law_k", 4)]) rfl scCp.nd (pi_range2 rfl T.range (pa_cons (pe_op op_add (pe_call GFl hF rfl mFl kFl bFl .nil pass0 (pa_cons (pe_op op_sub (pv 2) (pe_ix ix_tup (pv 0) pe_int (fun _ _ => rfl))) (pa_cons (pv 1) (pa_cons (pv 3) pa_nil)))) pe_int) (pa_cons (pe_op op_add (pe_call GFl hF rfl mFl kFl bFl .nil pass0 (pa_cons (pe_op op_sub (pv 2) (pe_ix ix_tup (pv 0) pe_int (fun _ _ => rfl))) (pa_cons (pv 1) (pa_cons (pv 3) pa_nil)))) pe_int) pa_nil))) (blkOk_by (N := ["_law_one_here", "_law_span", "_law_t", "_law_side", "_law_k"]) (sc := defScope sCp) (by decide +kernel)) (fun _ _ _ _ _ => pg_name (i := 4) scCp.nd rfl (Or.inl rfl)) (fun _ _ _ _ _ => pts_nil) (fun _ _ _ _ _ => (pv 4))))) pss_nil)
 (pss_cons ps_never
 (pss_one ps_never))), ?_⟩
    refine ⟨_, rfl, _, _, rfl, rfl, _, rfl, iteA (decide_eq_true hS) ?_⟩
    refine ⟨_, rfl, _, rfl, p, _, _, _, rfl, rfl, SqT.of hp, atI_nat (j := 4) rfl, _, _, rfl, rfl, _, rfl, _, rfl, _, _, _, rfl, hd0, hS, sS, _, _, rfl, rfl, ?_⟩
    refine ⟨_, rfl, _, rfl, p, _, _, _, rfl, rfl, SqT.of hp, atI_nat (j := 3) rfl, _, _, rfl, rfl, _, rfl, _, rfl, _, _, _, rfl, hd0, hS, sS, _, _, rfl, rfl, ?_⟩
    have q4 : sd d (t0 - hi) = sd d t0 - hi := sd_sub
    have q3 : sd d (t0 - lo) = sd d t0 - lo := sd_sub
    rw [q4, q3]
    generalize sd d t0 = t at *
    have en : ((t - lo) / S + 1 - ((t - hi) / S + 1)).toNat = ((t - lo) / S - (t - hi) / S).toNat := by congr 1; omega
    refine ⟨(t - hi) / S + 1, (t - lo) / S + 1, rfl, ⟨by omega, by omega, by omega, by omega⟩, fun D hD => lc_range (fun i H' => Ex H H' ∧ H' D = some (.lst (((List.range i).map fun i => (t - hi) / S + 1 + (i : Nat)).map V.int))) ⟨Ex.new hD, upd_same⟩ ?_ ?_⟩
    · rintro i H1 hi' ⟨e1, hd⟩
      refine ⟨rfl, _, rfl, _, hd, line_lt (by rw [List.length_map, List.length_map, List.length_range]; omega), Evl.Ex.mut e1 hD, ?_⟩
      rw [upd_same, List.range_succ, List.map_append, List.map_append]
      rfl
    · rintro H1 ⟨e1, hd⟩
      rw [en] at hd
      exact kk D H1 e1 hd
theorem hu65 {k : Nat} {A : Around} (r : Room k A) : A.units + 65 < cLine := by
  have := r.un
  omega
def hitm (S : Int) (r : List Int) (j : Int) : List Int := [r.getD 0 0, r.getD 1 0 + j * S, r.getD 2 0 + j * S]
def HitR (S t : Int) (r m : List Int) : Prop := ∃ j ∈ turnsOf S t (r.getD 3 0) (r.getD 4 0), m = hitm S r j
theorem hit_shw {S t : Int} (hS : 0 < S) {L : List (List Int)} {n : Nat} (hL : ∀ r ∈ L, LRowK n r) {b e k : Int} : (∃ r ∈ L, HitR S t r [k, b, e]) ↔ Shw (Ob S (L.map lrow)) t b e k := by
  rw [shw_at (fun r hr => by obtain ⟨w, hw, rfl⟩ := List.mem_map.mp hr; exact (hL w hw).row)]
  constructor
  · rintro ⟨r, hr, j, hj, hm⟩
    obtain ⟨k0, b0, e0, lo, hi, rfl, _⟩ := hL r hr
    obtain ⟨g1, g2⟩ := (turns_mem hS).mp hj
    have g1 : lo + j * S ≤ t := g1
    have g2 : t < hi + j * S := g2
    have hm : [k, b, e] = [k0, b0 + j * S, e0 + j * S] := hm
    injection hm with z1 hm
    injection hm with z2 hm
    injection hm with z3 _
    have hc := Int.mul_comm S j
    refine ⟨j, lrow [k0, b0, e0, lo, hi], List.mem_map.mpr ⟨_, hr, rfl⟩, ?_, ?_, ?_⟩
    · show [b0, e0, k0] = [b - S * j, e - S * j, k]
      rw [z1, z2, z3, hc, Int.add_sub_cancel, Int.add_sub_cancel]
    · show lo ≤ t - S * j
      omega
    · show t - S * j < hi
      omega
  · rintro ⟨j, q, hq, hd, g1, g2⟩
    obtain ⟨r, hr, rfl⟩ := List.mem_map.mp hq
    obtain ⟨k0, b0, e0, lo, hi, rfl, _⟩ := hL r hr
    have g1 : lo ≤ t - S * j := g1
    have g2 : t - S * j < hi := g2
    have hd : [b0, e0, k0] = [b - S * j, e - S * j, k] := hd
    injection hd with z1 hd
    injection hd with z2 hd
    injection hd with z3 _
    have hc := Int.mul_comm S j
    refine ⟨_, hr, j, (turns_mem hS).mpr ⟨?_, ?_⟩, ?_⟩
    · show lo + j * S ≤ t
      omega
    · show t < hi + j * S
      omega
    · show [k, b, e] = [k0, b0 + j * S, e0 + j * S]
      rw [z3, show b0 + j * S = b by omega, show e0 + j * S = e by omega]
theorem nodup_snoc {α : Type} {M : List α} {x : α} (h : M.Nodup) (hx : x ∉ M) : (M ++ [x]).Nodup := by
  rw [List.nodup_append]
  refine ⟨h, by simp, fun a ha b hb e => ?_⟩
  rw [List.mem_singleton.mp hb] at e
  exact hx (e ▸ ha)
abbrev sTs : Stmt := top 114
theorem scTs : FnScope ["_law_fill_here", "_law_t", "_law_side", "_law_unit_here", "_law_out", "_law_span", "_law_one_here", "_law_turn", "_law_mark"] ["_law_fill_here", "_law_t", "_law_side", "_law_unit_here"] (defScope sTs) := ⟨rfl, rfl, rfl, by decide +kernel, rfl, by decide +kernel, by decide +kernel⟩
def spTs : Sp := fun vs H Q _ => ∃ (U z t d : Int) (L : List (List Int)) (v : V), vs = [v, .int t, .int d, .int U] ∧ (d = 1 ∨ d = -1) ∧ FiR z L v H ∧ (∀ r ∈ L, LRow r ∧ Near U 1100 r) ∧ 1 ≤ z ∧ z ≤ 1000 ∧ 0 < U ∧ Sm 60 U ∧ L.length ≤ 9 ∧ -(5000 * U) ≤ t ∧ t ≤ 5000 * U ∧
  ∀ (M : List (List Int)) (x : V) (H' : Hp), (∀ b e k : Int, [k, b, e] ∈ M ↔ Shw (Ob (z * U) (L.map lrow)) (sd d t) b e k) → (∀ m ∈ M, ∃ k b e : Int, m = [k, b, e]) → M.Nodup → M.length ≤ 200000 → Ex H H' → LoI M x H' → Q x H'
theorem quot_in {U S a : Int} (hU : 0 < U) (h : U ≤ S) {n : Int} (hn : 0 ≤ n) (h1 : -(n * U) ≤ a) (h2 : a ≤ n * U) : -n ≤ a / S ∧ a / S ≤ n := by
  have hS : 0 < S := by omega
  have h3 := Int.mul_le_mul_of_nonneg_left h hn
  constructor
  · refine (Int.le_ediv_iff_mul_le hS).mpr ?_
    rw [Int.neg_mul]
    omega
  · have : a / S < n + 1 := (Int.ediv_lt_iff_lt_mul hS).mpr (by rw [Int.add_mul]; omega)
    omega
theorem ok_tune_set {f : Addr} {fd : FuncData} (F : Fun K "_law_tune_set" "_law_tune_set" sTs f fd) (T : Txt K mg C) (OC : Ok P w K mg base CX0 2 "_law_copies" ["_law_one_here", "_law_span", "_law_t", "_law_side"] spCp) : FnOk P w K mg base CX0 3 f fd ["_law_fill_here", "_law_t", "_law_side", "_law_unit_here"] spTs := by
  obtain ⟨fCp, fdCp, GCp, mCp, kCp, bCp⟩ := OC
  refine F.ok scTs (fun vs H Q E h => ?_) (fun cdv A outer s H vs Q E hr h => ?_)
  · obtain ⟨U, z, t, d, L, v, rfl, _⟩ := h
    rfl
  · obtain ⟨U, z, t0, d, L, v, rfl, hd0, ⟨p, a, vs, rfl, hp, ha, hA⟩, hL, z1, z2, hU, sU, l9, t1, t2, kk⟩ := h
    have hC : Room 2 _ := hr
    have sdt : sd d t0 ≤ t0 ∧ t0 - 1 ≤ sd d t0 := by
      unfold sd
      split <;> omega
    obtain ⟨t, ht0⟩ : ∃ t, sd d t0 = t := ⟨_, rfl⟩
    rw [ht0] at kk sdt
    have lA := hA.len
    have sz : Sm 10 z := by unfold Sm; omega
    have hS : 0 < z * U := Int.mul_pos (by omega) hU
    have sS : Sm 70 (z * U) := sz.mul sU
    have hUS : U ≤ z * U := by
      have := Int.mul_le_mul_of_nonneg_right z1 (Int.le_of_lt hU)
      omega
    refine ⟨_, (pss_cons (ps_set (i := 4) scTs.nd rfl (Or.inl rfl) (pe_lst pa_nil))
 (pss_cons (ps_set (i := 5) scTs.nd rfl (Or.inl rfl) (pe_op op_mulW (pe_ix ix_tup (pv 0) pe_int (fun _ _ => rfl)) (pv 3)))
 (pss_cons (ps_for PassesOwn.never rfl (pi_list (pe_ix ix_tup (pv 0) pe_int (fun _ _ => rfl))) (pg_name (i := 6) scTs.nd rfl (Or.inl rfl)) (pss_one (ps_for PassesOwn.never rfl (pi_list (pe_call GCp hC rfl mCp kCp bCp .nil pass0 (pa_cons (pv 6) (pa_cons (pv 5) (pa_cons (pv 1) (pa_cons (pv 2) pa_nil)))))) (pg_name (i := 7) scTs.nd rfl (Or.inl rfl)) (pss_cons (ps_set (i := 8) scTs.nd rfl (Or.inl rfl) (pe_tup (pa_cons (pe_ix ix_tup (pv 6) pe_int (fun _ _ => rfl)) (pa_cons (pe_op op_add (pe_ix ix_tup (pv 6) pe_int (fun _ _ => rfl)) (pe_op op_mulW (pv 7) (pv 5))) (pa_cons (pe_op op_add (pe_ix ix_tup (pv 6) pe_int (fun _ _ => rfl)) (pe_op op_mulW (pv 7) (pv 5))) pa_nil)))))
 (pss_one (ps_if (pt_cmpR (op_notInD (hu65 hr)) (pv 8) (pv 4) (by rfl)) (pss_one (ps_expr (pe_bm PySem.F.plainAttrs_list PySem.F.slot_list_append PySem.F.type_list_append mt_append (pv 4) (pa_cons (pv 8) pa_nil)))) pss_nil))))))
 (pss_one (ps_ret (pv 4)))))), ?_⟩
    refine ⟨by show 0 ≤ sizeLine; decide, fun o ho => ?_⟩
    have eo : Ex H (upd H o (.lst [])) := Ex.new ho
    have hp0 := eo _ _ hp
    have ha0 := eo _ _ ha
    refine ⟨_, rfl, p, _, _, _, rfl, rfl, SqT.of hp0, at0, _, rfl, _, _, rfl, rfl, Sm.cmul (k := 10) (j := 60) sz sU, ?_⟩
    refine ⟨_, rfl, p, _, _, _, rfl, rfl, SqT.of hp0, at1, a, rfl, ⟨_, SqL.of ha0⟩, for_list (K := K) (a := a) (xs := vs) (fun i σ H' => ∃ v6 v7 v8 zs M, σ = [some (.ref p), some (.int t0), some (.int d), some (.int U), some (.ref o), some (.int (z * U)), v6, v7, v8] ∧ Ex H H' ∧ H' o = some (.lst zs) ∧ Al TuI H' M zs ∧ M.length ≤ 20000 * i ∧ M.Nodup ∧ (∀ m, m ∈ M ↔ ∃ r ∈ L.take i, HitR (z * U) t r m))
      ⟨none, none, none, [], [], rfl, eo, upd_same, .nil, Nat.zero_le _, List.nodup_nil, fun m => by simp⟩ (fun i σ H' _ ⟨_, _, _, _, _, _, e, _⟩ => SqL.of (e _ _ ha)) ?_ ?_⟩
    · rintro i x σ H1 hi ⟨v6, v7, v8, zs, M, rfl, e1, hz, hM, lM, dM, mM⟩
      obtain ⟨r, hr1, hr2⟩ := hA.getV hi
      have hi9 : i < 9 := by
        have := (List.getElem?_eq_some_iff.mp hr1).1
        omega
      have tk : L.take (i + 1) = L.take i ++ [r] := by
        rw [List.take_succ, hr1]
        rfl
      obtain ⟨lr, nr⟩ := hL r (List.mem_of_getElem? hr1)
      obtain ⟨k0, b0, e0, lo, hi0, rfl, o1, o2, o3, sk, sb, se⟩ := lr
      have n1 : -(1100 * U) ≤ b0 := nr.1
      have n2 : e0 ≤ 1100 * U := nr.2
      obtain ⟨q, rfl, hq⟩ := hr2.ex e1
      obtain ⟨u1, u2⟩ := quot_in (a := t - hi0) (n := 6101) hU hUS (by decide) (by omega) (by omega)
      obtain ⟨u3, u4⟩ := quot_in (a := t - lo) (n := 6101) hU hUS (by decide) (by omega) (by omega)
      have ljs : (turnsOf (z * U) t lo hi0).length ≤ 20000 := by
        unfold turnsOf
        rw [List.length_map, List.length_range]
        omega
      have bjs : ∀ j ∈ turnsOf (z * U) t lo hi0, -7000 ≤ j ∧ j ≤ 7000 := fun j hj => by
        unfold turnsOf at hj
        obtain ⟨i', hi', rfl⟩ := List.mem_map.mp hj
        have := List.mem_range.mp hi'
        omega
      have hR : ∀ m, HitR (z * U) t [k0, b0, e0, lo, hi0] m ↔ ∃ j ∈ turnsOf (z * U) t lo hi0, m = hitm (z * U) [k0, b0, e0, lo, hi0] j := fun m => Iff.rfl
      generalize hjs : turnsOf (z * U) t lo hi0 = js at *
      refine ⟨_, rfl, _, rfl, _, rfl, _, rfl, z * U, t0, d, t, k0, b0, e0, lo, hi0, _, rfl, hd0, ht0.symm, ⟨q, rfl, hq⟩, hS, sS.mono (by decide), by omega, by omega, by omega, by omega, fun p2 H2 e2 hp2 => ?_⟩
      rw [hjs] at hp2
      refine ⟨p2, rfl, ⟨_, SqL.of hp2⟩, for_list (K := K) (a := p2) (xs := js.map V.int) (fun i2 σ H' => ∃ v7 v8 zs M, σ = [some (.ref p), some (.int t0), some (.int d), some (.int U), some (.ref o), some (.int (z * U)), some (.ref q), v7, v8] ∧ Ex H H' ∧ H' p2 = some (.lst (js.map V.int)) ∧ H' o = some (.lst zs) ∧ H' q = some (.tup ([k0, b0, e0, lo, hi0].map V.int)) ∧ Al TuI H' M zs ∧ M.length ≤ 20000 * i + i2 ∧ M.Nodup ∧ (∀ m, m ∈ M ↔ (∃ r ∈ L.take i, HitR (z * U) t r m) ∨ ∃ j ∈ js.take i2, m = hitm (z * U) [k0, b0, e0, lo, hi0] j))
        ⟨v7, v8, zs, M, rfl, e1.trans e2, hp2, e2 _ _ hz, e2 _ _ hq, alI_ex hM e2, by omega, dM, fun m => by rw [mM m]; simp⟩ (fun i σ H' _ ⟨_, _, _, _, _, _, e, _⟩ => SqL.of e) ?_ ?_⟩
      · rintro i2 y σ H3 hi2 ⟨v7, v8, zs, M, rfl, e3, hp3, hz3, hq3, hM3, lM3, dM3, mM3⟩
        obtain ⟨j, hj, rfl⟩ : ∃ j, js[i2]? = some j ∧ y = V.int j := by
          rw [List.getElem?_map] at hi2
          cases w : js[i2]? with
          | none => rw [w] at hi2; cases hi2
          | some b => rw [w] at hi2; cases hi2; exact ⟨b, rfl, rfl⟩
        have hi2' : i2 < js.length := (List.getElem?_eq_some_iff.mp hj).1
        have bj := bjs j (List.mem_of_getElem? hj)
        have tj : js.take (i2 + 1) = js.take i2 ++ [j] := by
          rw [List.take_succ, hj]
          rfl
        have sj : Sm 20 j := by unfold Sm; omega
        have hop : o ≠ p2 := fun w => by
          rw [w, hp3] at hz3
          injection hz3 with hz3
          injection hz3 with hz3
          subst hz3
          have h1 := hM3.getV (i := i2) (v := V.int j) (by rw [List.getElem?_map, hj]; rfl)
          obtain ⟨_, _, _, e, _⟩ := h1
          cases e
        refine ⟨_, rfl, q, _, _, _, rfl, rfl, SqT.of hq3, atI_nat (j := 0) rfl, _, rfl, q, _, _, _, rfl, rfl, SqT.of hq3, atI_nat (j := 1) rfl, _, rfl, _, rfl, _, _, rfl, rfl, Sm.cmul (k := 20) (j := 70) sj sS, _, _, rfl, rfl, _, rfl, q, _, _, _, rfl, rfl, SqT.of hq3, atI_nat (j := 2) rfl, _, rfl, _, rfl, _, _, rfl, rfl, Sm.cmul (k := 20) (j := 70) sj sS, _, _, rfl, rfl, by show 3 ≤ sizeLine; decide, fun w nw => ?_⟩
        have ew : Ex H3 (upd H3 w (.tup ((hitm (z * U) [k0, b0, e0, lo, hi0] j).map V.int))) := Ex.new nw
        have hw : TuI (hitm (z * U) [k0, b0, e0, lo, hi0] j) (.ref w) (upd H3 w (.tup ((hitm (z * U) [k0, b0, e0, lo, hi0] j).map V.int))) := ⟨w, rfl, upd_same⟩
        have hz4 := ew _ _ hz3
        have hM4 := alI_ex hM3 ew
        refine ⟨_, rfl, _, rfl, notin_rd hw ⟨o, zs, rfl, hz4, hM4⟩ ⟨_, rfl, ite2 (fun c => ?_) (fun c => ?_)⟩⟩
        · have lz := hM3.len
          have s5 := St.lst (o := .lst (zs ++ [V.ref w])) hz4
          refine ⟨_, rfl, .inl ⟨rfl, _, SqL.of hz4⟩, _, rfl, o, zs, _, rfl, rfl, hz4, line_lt (by omega), ?_⟩
          refine ⟨_, _, _, M ++ [hitm (z * U) [k0, b0, e0, lo, hi0] j], rfl, Evl.Ex.mut (e3.trans ew) ho, by rw [upd_ne hop.symm]; exact ew _ _ hp3, upd_same, s5 _ _ (ew _ _ hq3) (.inr ⟨_, rfl⟩), (alI_st hM4 s5).snoc (hw.st s5), by rw [List.length_append, List.length_singleton]; omega, nodup_snoc dM3 (by simpa using c), fun m => ?_⟩
          rw [tj, List.mem_append, mM3 m]
          simp only [List.mem_append, List.mem_singleton, or_and_right, exists_or, exists_eq_left, or_assoc]
        · have c : hitm (z * U) [k0, b0, e0, lo, hi0] j ∈ M := by
            have := Bool.eq_false_iff.mpr c
            simpa using this
          refine ⟨_, _, zs, M, rfl, e3.trans ew, ew _ _ hp3, hz4, ew _ _ hq3, hM4, by omega, dM3, fun m => ?_⟩
          rw [tj]
          simp only [List.mem_append, List.mem_singleton, or_and_right, exists_or, exists_eq_left]
          rw [mM3 m, ← or_assoc]
          constructor
          · exact .inl
          · rintro (h | rfl)
            · exact h
            · exact (mM3 _).mp c
      · rintro σ H3 ⟨v7, v8, zs, M, rfl, e3, hp3, hz3, hq3, hM3, lM3, dM3, mM3⟩
        rw [List.length_map, List.take_length] at mM3
        rw [List.length_map] at lM3
        refine ⟨_, _, _, zs, M, rfl, e3, hz3, hM3, by omega, dM3, fun m => ?_⟩
        rw [mM3 m, tk]
        simp only [List.mem_append, List.mem_singleton, or_and_right, exists_or, exists_eq_left]
        rw [hR m]
    · rintro σ H1 ⟨v6, v7, v8, zs, M, rfl, e1, hz, hM, lM, dM, mM⟩
      rw [lA, List.take_length] at mM
      refine ⟨_, rfl, kk M _ H1 (fun b e k => ?_) (fun m hm => ?_) dM (by omega) e1 ⟨o, zs, rfl, hz, hM⟩⟩
      · rw [mM, hit_shw hS fun r hr => (hL r hr).1]
      · obtain ⟨r, _, j, _, rfl⟩ := (mM m).mp hm
        exact ⟨_, _, _, rfl⟩
/-! ### the law's own keys of marks -/
abbrev sUs : Stmt := top 120
theorem scUs : FnScope ["_law_moment", "_law_unit_here"] ["_law_moment", "_law_unit_here"] (defScope sUs) := ⟨rfl, rfl, rfl, by decide +kernel, rfl, by decide +kernel, by decide +kernel⟩
def spUs (C : Addr) : Sp := fun vs H Q _ => ∃ (U n : Int) (v : V), vs = [v, .int U] ∧ MU C U n v H ∧ 0 < U ∧ Sm 390 U ∧ Q (.int n) H
theorem ok_units {f : Addr} {fd : FuncData} (F : Fun K "_law_units" "_law_units" sUs f fd) (T : Txt K mg C) : FnOk P w K mg base CX0 1 f fd ["_law_moment", "_law_unit_here"] (spUs C) := by
  refine F.ok scUs (fun vs H Q E h => ?_) (fun cdv A outer s H vs Q E hr h => ?_)
  · obtain ⟨U, n, v, rfl, _⟩ := h
    rfl
  · obtain ⟨U, n, v, rfl, ⟨⟨t, b, N, a, dx, rfl, ha⟩, sn⟩, hU, sU, k⟩ := h
    have st := N.st sn
    have sb := N.sb sU
    have hb := N.pos
    have e0 : t * U % b = 0 := by
      rw [N.eq]
      exact Int.mul_emod_left n b
    refine ⟨_, (pss_cons (ps_if (pt_cmpR op_ne (pe_op op_mod (pe_callTy call_int1 rfl T.int PyProof.Rows.boot_int (pa_cons (pe_op op_mulW (pe_fld (pv 0) rfl) (pv 1)) pa_nil)) (pe_fld (pv 0) rfl)) pe_int (nomark _)) (pss_one (ps_ret pe_non)) pss_nil)
 (pss_one (ps_ret (pe_op op_fdivNW (pe_op op_mulW (pe_fld (pv 0) rfl) (pv 1)) (pe_fld (pv 0) rfl))))), ?_⟩
    refine ⟨_, rfl, a, C, dx, _, _, rfl, ha, T.cl, T.nT, mf_top _ _, _, rfl, _, _, rfl, rfl, st.cmul sU, .inl ⟨_, rfl, _, rfl, a, C, dx, _, _, rfl, ha, T.cl, T.nB, mf_bottom _ _, _, _, rfl, rfl, hb, rfl, _, rfl, iteB (by simp [e0]) ?_⟩⟩
    refine ⟨_, rfl, a, C, dx, _, _, rfl, ha, T.cl, T.nT, mf_top _ _, _, rfl, _, _, rfl, rfl, st.cmul sU, _, rfl, a, C, dx, _, _, rfl, ha, T.cl, T.nB, mf_bottom _ _, _, _, rfl, rfl, (sb.mono (show 390 ≤ 9000 by decide)).cdiv (Int.ne_of_gt hb), ?_⟩
    show Q (.int ((t * U).fdiv b)) H
    rw [N.eq, Int.fdiv_eq_ediv_of_nonneg _ (Int.le_of_lt hb), Int.mul_ediv_cancel n (Int.ne_of_gt hb)]
    exact k
def kyR (r : Row) : List Int := [r.getD 4 0, r.getD 2 0, r.getD 3 0]
abbrev sKy : Stmt := top 121
theorem scKy : FnScope ["_law_mark", "_law_unit_here"] ["_law_mark", "_law_unit_here"] (defScope sKy) := ⟨rfl, rfl, rfl, by decide +kernel, rfl, by decide +kernel, by decide +kernel⟩
def spKy (CM C : Addr) : Sp := fun vs H Q _ => ∃ (U : Int) (r : Row) (v : V), vs = [v, .int U] ∧ MrU CM C U r v H ∧ 0 < U ∧ Sm 390 U ∧ ∀ (v' : V) (H' : Hp), Ex H H' → TuI (kyR r) v' H' → Q v' H'
theorem ok_key {CM CK fK f : Addr} {fd : FuncData} (F : Fun K "_law_key" "_law_key" sKy f fd) (T : Txt K mg C) (TK : TxtK K mg CM CK fK) (OU : Ok P w K mg base CX0 1 "_law_units" ["_law_moment", "_law_unit_here"] (spUs C)) : FnOk P w K mg base CX0 2 f fd ["_law_mark", "_law_unit_here"] (spKy CM C) := by
  obtain ⟨fUs, fdUs, GUs, mUs, kUs, bUs⟩ := OU
  refine F.ok scKy (fun vs H Q E h => ?_) (fun cdv A outer s H vs Q E hr h => ?_)
  · obtain ⟨U, r, v, rfl, _⟩ := h
    rfl
  · obtain ⟨U, r, v, rfl, ⟨s0, p0, b0, e0, k0, a, d, xs, xp, xb, xe, rfl, rfl, ha, h1, h2, h3, h4⟩, hU, sU, k⟩ := h
    have hU1 : Room 1 _ := hr
    refine ⟨_, (pss_one (ps_ret (pe_tup (pa_cons (pe_fld (pv 0) rfl) (pa_cons (pe_call GUs hU1 rfl mUs kUs bUs .nil pass0 (pa_cons (pe_fld (pv 0) rfl) (pa_cons (pv 1) pa_nil))) (pa_cons (pe_call GUs hU1 rfl mUs kUs bUs .nil pass0 (pa_cons (pe_fld (pv 0) rfl) (pa_cons (pv 1) pa_nil))) pa_nil)))))), ?_⟩
    refine ⟨_, rfl, a, CM, d, _, _, rfl, ha, TK.cl, TK.aT, kf_tone, _, rfl, a, CM, d, _, _, rfl, ha, TK.cl, TK.aB, kf_begin, _, rfl, U, b0, _, rfl, h3, hU, sU, ?_⟩
    refine ⟨_, rfl, a, CM, d, _, _, rfl, ha, TK.cl, TK.aE, kf_end, _, rfl, U, e0, _, rfl, h4, hU, sU, by show 3 ≤ sizeLine; decide, fun q nq => k _ _ (Ex.new nq) ⟨q, rfl, upd_same⟩⟩
/-! ### the same marks -/
theorem eqv_nil (L : List (List Int)) : PyData.eqv (.list (L.map dTup)) (.list []) = decide (L = []) := by
  cases L with
  | nil => simp [PyData.eqv, PyData.eqvAll]
  | cons a l => simp [PyData.eqv, PyData.eqvAll]
theorem LoI.nil {p : Addr} {H : Hp} (h : H p = some (.lst [])) : LoI [] (.ref p) H := ⟨p, [], rfl, h, .nil⟩
theorem eqnil_rd {K : PySem.W.Frag} {x y : V} {L : List (List Int)} {H : Hp} {Q : VK} (hx : LoI L x H) (hy : LoI [] y H) (k : Q (.bl (decide (L = []))) H) : rEqD K x y H Q :=
  ⟨_, _, hx.dp, hy.dp, shaped_tups L, shaped_tups [], by rw [show (PyData.list (List.map dTup [])) = PyData.list [] from rfl, eqv_nil]; exact k⟩
theorem nenil_rd {K : PySem.W.Frag} {x y : V} {L : List (List Int)} {H : Hp} {Q : VK} (hx : LoI L x H) (hy : LoI [] y H) (k : Q (.bl (!decide (L = []))) H) : rNeD K x y H Q :=
  ⟨_, _, hx.dp, hy.dp, shaped_tups L, shaped_tups [], by rw [show (PyData.list (List.map dTup [])) = PyData.list [] from rfl, eqv_nil]; exact k⟩
theorem hu64 {k : Nat} {A : Around} (r : Room k A) : A.units + 64 < cLine := by
  have := r.un
  omega
abbrev sSm : Stmt := top 115
theorem scSm : FnScope ["_law_left", "_law_right", "_law_one_here"] ["_law_left", "_law_right"] (defScope sSm) := ⟨rfl, rfl, rfl, by decide +kernel, rfl, by decide +kernel, by decide +kernel⟩
def spSm : Sp := fun vs H Q _ => ∃ (A B : List (List Int)) (x y : V), vs = [x, y] ∧ LoI A x H ∧ LoI B y H ∧ A.length ≤ 200000 ∧ B.length ≤ 200000 ∧ ∀ (c : Bool) (H' : Hp), Ex H H' → (c = true ↔ A.length = B.length ∧ (∀ m ∈ A, m ∈ B) ∧ ∀ m ∈ B, m ∈ A) → Q (.bl c) H'
theorem ok_same {f : Addr} {fd : FuncData} (F : Fun K "_law_same" "_law_same" sSm f fd) (T : Txt K mg C) : FnOk P w K mg base CX0 1 f fd ["_law_left", "_law_right"] spSm := by
  refine F.ok scSm (fun vs H Q E h => ?_) (fun cdv A outer s H vs Q E hr h => ?_)
  · obtain ⟨_, _, x, y, rfl, _⟩ := h
    rfl
  · obtain ⟨L, R, x, y, rfl, hL, hR, lL, lR, k⟩ := h
    obtain ⟨a, xs, rfl, ha, hx⟩ := id hL
    obtain ⟨b, ys, rfl, hb, hy⟩ := id hR
    have lx := hx.len
    have ly := hy.len
    refine ⟨_, (pss_cons (ps_if (PW.pt (pw_or (pt_cmpR op_ne (pe_callB call_len rfl T.len PySem.boot_len (pa_cons (pv 0) pa_nil)) (pe_callB call_len rfl T.len PySem.boot_len (pa_cons (pv 1) pa_nil)) (nomark _)) (pw_or1 (pt_cmpR (op_neD (hu64 hr)) (pe_lc (own := [("_law_one_here", 2)]) rfl scSm.nd (pi_list (pv 0)) (blkOk_by (N := ["_law_left", "_law_right", "_law_one_here"]) (sc := defScope sSm) (by decide +kernel)) (fun _ _ _ _ _ => pg_name (i := 2) scSm.nd rfl (Or.inl rfl)) (fun _ _ _ _ _ => (pts_one (pt_cmpR (show OpR _ _ (rNotInD K) from op_notInD (hu65 hr)) (pv 2) (pv 1) (by rfl)))) (fun _ _ _ _ _ => (pv 2))) (pe_lst pa_nil) (nomark _))))) (pss_one (ps_ret pe_bl)) pss_nil)
 (pss_one (ps_ret (pe_cmpR (op_eqD (hu64 hr)) (pe_lc (own := [("_law_one_here", 2)]) rfl scSm.nd (pi_list (pv 1)) (blkOk_by (N := ["_law_left", "_law_right", "_law_one_here"]) (sc := defScope sSm) (by decide +kernel)) (fun _ _ _ _ _ => pg_name (i := 2) scSm.nd rfl (Or.inl rfl)) (fun _ _ _ _ _ => (pts_one (pt_cmpR (show OpR _ _ (rNotInD K) from op_notInD (hu65 hr)) (pv 2) (pv 0) (by rfl)))) (fun _ _ _ _ _ => (pv 2))) (pe_lst pa_nil) (nomark _))))), ?_⟩
    have eL : ∀ {H' : Hp}, Ex H H' → LoI L (.ref a) H' := fun e => hL.ex e
    refine ⟨_, rfl, _, _, rfl, .inl ⟨_, SqL.of ha, rfl⟩, _, rfl, _, _, rfl, .inl ⟨_, SqL.of hb, rfl⟩, rfl, _, rfl, ite2 (fun c0 => ?_) (fun c0 => ?_)⟩
    · refine k false H (Ex.refl _) ⟨fun z => (nomatch z), fun ⟨w, _⟩ => ?_⟩
      exfalso
      simp [lx, ly, w] at c0
    have e00 : Ex H H := Ex.refl _
    obtain ⟨H0, rfl⟩ : ∃ H0, H0 = H := ⟨_, rfl⟩
    refine ⟨_, rfl, a, rfl, ⟨_, SqL.of (e00 _ _ ha)⟩, fun D hD => lc_list (xs := xs) (fun i H' => Ex H0 H' ∧ ∃ zs, H' D = some (.lst zs) ∧ Al TuI H' ((L.take i).filter fun m => !decide (m ∈ R)) zs) ⟨Ex.new hD, [], upd_same, .nil⟩ (fun i H' _ ⟨e, _⟩ => SqL.of (e _ _ (e00 _ _ ha))) ?_ ?_⟩
    · rintro i y H1 hi ⟨e1, zs, hz, hZ⟩
      obtain ⟨m, hm, hv⟩ := hx.getV hi
      have tk : L.take (i + 1) = L.take i ++ [m] := by
        rw [List.take_succ, hm]
        rfl
      have hv1 := hv.ex (e00.trans e1)
      have lz := hZ.len
      have lf : ((L.take i).filter fun m => !decide (m ∈ R)).length ≤ 200000 := Nat.le_trans (List.length_filter_le ..) (by rw [List.length_take]; omega)
      refine ⟨rfl, _, rfl, _, rfl, notin_rd hv1 (hR.ex (e00.trans e1)) ⟨_, rfl, ite2 (fun g => ?_) (fun g => ?_)⟩⟩
      · refine ⟨_, rfl, zs, hz, line_lt (by omega), Evl.Ex.mut e1 hD, zs ++ [y], upd_same, ?_⟩
        have s3 := St.lst (o := .lst (zs ++ [y])) hz
        rw [tk, List.filter_append, List.filter_cons, if_pos g, List.filter_nil]
        exact (alI_st hZ s3).snoc (hv1.st s3)
      · refine ⟨e1, zs, hz, ?_⟩
        rw [tk, List.filter_append, List.filter_cons, if_neg g, List.filter_nil, List.append_nil]
        exact hZ
    · rintro H0x ⟨e1, zs, hz, hZ⟩
      rw [lx, List.take_length] at hZ
      refine ⟨by show 0 ≤ sizeLine; decide, fun o1 ho1 => nenil_rd (L := L.filter fun m => !decide (m ∈ R)) ((LoI.ex ⟨D, zs, rfl, hz, hZ⟩ (Ex.new ho1))) (LoI.nil upd_same) ⟨_, rfl, ite2 (fun c1 => ?_) (fun c1 => ?_)⟩⟩
      · refine k false _ (Ex.trans e1 (Ex.new ho1)) ⟨fun z => (nomatch z), fun ⟨_, w, _⟩ => ?_⟩
        exfalso
        simp only [Bool.not_eq_true', decide_eq_false_iff_not, List.filter_eq_nil_iff] at c1
        exact c1 fun m hm => by simpa using w m hm
      · have sub : ∀ m ∈ L, m ∈ R := fun m hm => by
          simp only [Bool.not_eq_true', decide_eq_false_iff_not, Classical.not_not, List.filter_eq_nil_iff] at c1
          simpa using c1 m hm
        have e02 := Ex.trans e1 (Ex.new (o := .lst []) ho1)
        clear hD
        generalize upd H0x o1 (.lst []) = H3 at *
        refine ⟨_, rfl, b, rfl, ⟨_, SqL.of (e02 _ _ hb)⟩, fun D hD => lc_list (xs := ys) (fun i H' => Ex H3 H' ∧ ∃ zs, H' D = some (.lst zs) ∧ Al TuI H' ((R.take i).filter fun m => !decide (m ∈ L)) zs) ⟨Ex.new hD, [], upd_same, .nil⟩ (fun i H' _ ⟨e, _⟩ => SqL.of (e _ _ (e02 _ _ hb))) ?_ ?_⟩
        · rintro i y H1 hi ⟨e1, zs, hz, hZ⟩
          obtain ⟨m, hm, hv⟩ := hy.getV hi
          have tk : R.take (i + 1) = R.take i ++ [m] := by
            rw [List.take_succ, hm]
            rfl
          have hv1 := hv.ex (e02.trans e1)
          have lz := hZ.len
          have lf : ((R.take i).filter fun m => !decide (m ∈ L)).length ≤ 200000 := Nat.le_trans (List.length_filter_le ..) (by rw [List.length_take]; omega)
          refine ⟨rfl, _, rfl, _, rfl, notin_rd hv1 (hL.ex (e02.trans e1)) ⟨_, rfl, ite2 (fun g => ?_) (fun g => ?_)⟩⟩
          · refine ⟨_, rfl, zs, hz, line_lt (by omega), Evl.Ex.mut e1 hD, zs ++ [y], upd_same, ?_⟩
            have s3 := St.lst (o := .lst (zs ++ [y])) hz
            rw [tk, List.filter_append, List.filter_cons, if_pos g, List.filter_nil]
            exact (alI_st hZ s3).snoc (hv1.st s3)
          · refine ⟨e1, zs, hz, ?_⟩
            rw [tk, List.filter_append, List.filter_cons, if_neg g, List.filter_nil, List.append_nil]
            exact hZ
        · rintro H3x ⟨e1, zs, hz, hZ⟩
          rw [ly, List.take_length] at hZ
          refine ⟨by show 0 ≤ sizeLine; decide, fun o2 ho2 => eqnil_rd (L := R.filter fun m => !decide (m ∈ L)) ((LoI.ex ⟨D, zs, rfl, hz, hZ⟩ (Ex.new ho2))) (LoI.nil upd_same) (k _ _ (e02.trans (e1.trans (Ex.new ho2))) ?_)⟩
          rw [decide_eq_true_iff, List.filter_eq_nil_iff]
          have c0 : L.length = R.length := by
            have w : (L.length : Int) = R.length := by simpa [lx, ly] using c0
            omega
          constructor
          · intro w
            exact ⟨c0, sub, fun m hm => by simpa using w m hm⟩
          · rintro ⟨_, _, w⟩ m hm
            simpa using w m hm
/-! ### lengths, strictness -/
theorem same_len {α : Type} {A B : List α} (hA : A.Nodup) (hB : B.Nodup) (h : ∀ x, x ∈ A ↔ x ∈ B) : A.length = B.length :=
  ((List.perm_ext_iff_of_nodup hA hB).mpr h).length_eq
/-- keys shown at t stand once, where rows stand once -/
theorem srt_strict {L : List Row} (h : Srt L) (hN : L.Nodup) : L.Pairwise fun r q => lt r q = true := by
  have both := List.pairwise_and_iff.mpr ⟨h, hN⟩
  refine List.Pairwise.imp (fun {a b} w => ?_) both
  cases e : lt a b with
  | true => rfl
  | false => exact absurd (le_antisymm w.1 e) w.2
theorem mul_le_mul_pos {a b c : Int} (hc : 0 < c) : a * c ≤ b * c ↔ a ≤ b := ⟨fun h => Int.le_of_mul_le_mul_right h hc, fun h => Int.mul_le_mul_of_nonneg_right h (Int.le_of_lt hc)⟩
theorem mul_lt_mul_pos {a b c : Int} (hc : 0 < c) : a * c < b * c ↔ a < b := ⟨fun h => Int.lt_of_mul_lt_mul_right h (Int.le_of_lt hc), fun h => Int.mul_lt_mul_of_pos_right h hc⟩
/-! ### the order of marks -/
theorem cross {U n m t b t' b' : Int} (hU : 0 < U) (N : Norm n U t b) (M : Norm m U t' b') : (t * b' = t' * b ↔ n = m) ∧ (t * b' < t' * b ↔ n < m) := by
  have hb : 0 < b * b' := Int.mul_pos N.pos M.pos
  have e1 : t * b' * U = n * (b * b') := by
    rw [Int.mul_right_comm, N.eq, Int.mul_assoc]
  have e2 : t' * b * U = m * (b * b') := by
    rw [Int.mul_right_comm, M.eq, Int.mul_assoc, Int.mul_comm b']
  have key : t * b' < t' * b ↔ n < m := by
    rw [← mul_lt_mul_pos (c := U) hU, e1, e2, mul_lt_mul_pos hb]
  refine ⟨⟨fun h => ?_, fun h => ?_⟩, key⟩
  · have : n * (b * b') = m * (b * b') := by rw [← e1, ← e2, h]
    exact Int.eq_of_mul_eq_mul_right (Int.ne_of_gt hb) this
  · have : t * b' * U = t' * b * U := by rw [e1, e2, h]
    exact Int.eq_of_mul_eq_mul_right (Int.ne_of_gt hU) this
abbrev sBf : Stmt := top 123
theorem scBf : FnScope ["_law_a", "_law_b", "_law_one_here", "_law_two"] ["_law_a", "_law_b"] (defScope sBf) := ⟨rfl, rfl, rfl, by decide +kernel, rfl, by decide +kernel, by decide +kernel⟩
def spBf (CM C : Addr) : Sp := fun vs H Q _ => ∃ (U : Int) (r q : Row) (x y : V), vs = [x, y] ∧ MrU CM C U r x H ∧ MrU CM C U q y H ∧ 0 < U ∧ Sm 390 U ∧ ∀ H', Ex H H' → Q (.bl (lt r q)) H'
theorem ok_before {CM CK fK f : Addr} {fd : FuncData} (F : Fun K "_law_before" "_law_before" sBf f fd) (T : Txt K mg C) (TK : TxtK K mg CM CK fK) : FnOk P w K mg base CX0 1 f fd ["_law_a", "_law_b"] (spBf CM C) := by
  refine F.ok scBf (fun vs H Q E h => ?_) (fun cdv A outer s H vs Q E hr h => ?_)
  · obtain ⟨_, _, _, x, y, rfl, _⟩ := h
    rfl
  · obtain ⟨U, r, q, x, y, rfl, ⟨s0, p0, b0, e0, k0, am, dm, xs, xp, xb, xe, rfl, rfl, hm, h1, h2, h3, h4⟩, ⟨s1, p1, b1, e1, k1, an, dn, ys, yp, yb, ye, rfl, rfl, hn, g1, g2, g3, g4⟩, hU, sU, k⟩ := h
    refine ⟨_, (pss_cons (ps_for PassesOwn.never rfl (pi_list (pe_lst (pa_cons (pe_tup (pa_cons (pe_fld (pv 0) rfl) (pa_cons (pe_fld (pv 1) rfl) pa_nil))) (pa_cons (pe_tup (pa_cons (pe_fld (pv 0) rfl) (pa_cons (pe_fld (pv 1) rfl) pa_nil))) (pa_cons (pe_tup (pa_cons (pe_fld (pv 0) rfl) (pa_cons (pe_fld (pv 1) rfl) pa_nil))) (pa_cons (pe_tup (pa_cons (pe_fld (pv 0) rfl) (pa_cons (pe_fld (pv 1) rfl) pa_nil))) pa_nil)))))) (pg_tup rfl (pgs_cons (pg_name (i := 2) scBf.nd rfl (Or.inl rfl)) (pgs_cons (pg_name (i := 3) scBf.nd rfl (Or.inl rfl)) pgs_nil))) (pss_one (ps_if (pt_cmpR op_ne (pe_op op_mulW (pe_fld (pv 2) rfl) (pe_fld (pv 3) rfl)) (pe_op op_mulW (pe_fld (pv 3) rfl) (pe_fld (pv 2) rfl)) (nomark _)) (pss_one (ps_ret (pe_cmpR op_lt (pe_op op_mulW (pe_fld (pv 2) rfl) (pe_fld (pv 3) rfl)) (pe_op op_mulW (pe_fld (pv 3) rfl) (pe_fld (pv 2) rfl)) (nomark _)))) pss_nil)))
 (pss_one (ps_ret (pe_cmpR op_lt (pe_fld (pv 0) rfl) (pe_fld (pv 1) rfl) (nomark _))))), ?_⟩
    refine ⟨_, rfl, am, CM, dm, _, _, rfl, hm, TK.cl, TK.aS, kf_start, _, rfl, an, CM, dn, _, _, rfl, hn, TK.cl, TK.aS, kf_start, by show 2 ≤ sizeLine; decide, fun t0 n0 => ?_⟩
    have E0 : Ex H (upd H t0 (.tup [xs, ys])) := Ex.new n0
    have f0 : (upd H t0 (.tup [xs, ys])) t0 = some (.tup [xs, ys]) := upd_same
    generalize upd H t0 (.tup [xs, ys]) = H0 at *
    have hm0 := E0 _ _ hm
    have hn0 := E0 _ _ hn
    refine ⟨_, rfl, am, CM, dm, _, _, rfl, hm0, TK.cl, TK.aP, kf_stop, _, rfl, an, CM, dn, _, _, rfl, hn0, TK.cl, TK.aP, kf_stop, by show 2 ≤ sizeLine; decide, fun t1 n1 => ?_⟩
    have E1 : Ex H0 (upd H0 t1 (.tup [xp, yp])) := Ex.new n1
    have f1 : (upd H0 t1 (.tup [xp, yp])) t1 = some (.tup [xp, yp]) := upd_same
    generalize upd H0 t1 (.tup [xp, yp]) = H1 at *
    have hm1 := E1 _ _ hm0
    have hn1 := E1 _ _ hn0
    refine ⟨_, rfl, am, CM, dm, _, _, rfl, hm1, TK.cl, TK.aB, kf_begin, _, rfl, an, CM, dn, _, _, rfl, hn1, TK.cl, TK.aB, kf_begin, by show 2 ≤ sizeLine; decide, fun t2 n2 => ?_⟩
    have E2 : Ex H1 (upd H1 t2 (.tup [xb, yb])) := Ex.new n2
    have f2 : (upd H1 t2 (.tup [xb, yb])) t2 = some (.tup [xb, yb]) := upd_same
    generalize upd H1 t2 (.tup [xb, yb]) = H2 at *
    have hm2 := E2 _ _ hm1
    have hn2 := E2 _ _ hn1
    refine ⟨_, rfl, am, CM, dm, _, _, rfl, hm2, TK.cl, TK.aE, kf_end, _, rfl, an, CM, dn, _, _, rfl, hn2, TK.cl, TK.aE, kf_end, by show 2 ≤ sizeLine; decide, fun t3 n3 => ?_⟩
    have E3 : Ex H2 (upd H2 t3 (.tup [xe, ye])) := Ex.new n3
    have f3 : (upd H2 t3 (.tup [xe, ye])) t3 = some (.tup [xe, ye]) := upd_same
    generalize upd H2 t3 (.tup [xe, ye]) = H3 at *
    refine ⟨by show 4 ≤ sizeLine; decide, fun l nl => ?_⟩
    have EL : Ex H3 (upd H3 l (.lst [.ref t0, .ref t1, .ref t2, .ref t3])) := Ex.new nl
    have fl : (upd H3 l (.lst [.ref t0, .ref t1, .ref t2, .ref t3])) l = some (.lst [.ref t0, .ref t1, .ref t2, .ref t3]) := upd_same
    generalize upd H3 l (.lst [.ref t0, .ref t1, .ref t2, .ref t3]) = HL at *
    have EA : Ex H HL := E0.trans (E1.trans (E2.trans (E3.trans EL)))
    have q0 := (E1.trans (E2.trans (E3.trans EL))) _ _ f0
    have q1 := (E2.trans (E3.trans EL)) _ _ f1
    have q2 := (E3.trans EL) _ _ f2
    have q3 := EL _ _ f3
    refine ⟨l, rfl, ⟨_, SqL.of fl⟩, for_list (K := K) (a := l) (xs := [V.ref t0, V.ref t1, V.ref t2, V.ref t3]) (fun i σ H' => ∃ w2 w3, σ = [some (.ref am), some (.ref an), w2, w3] ∧ H' = HL ∧ ∀ j < i, [s0, p0, b0, e0].getD j 0 = [s1, p1, b1, e1].getD j 0)
      ⟨none, none, rfl, rfl, fun j hj => by omega⟩ (fun i σ H' _ ⟨_, _, _, e, _⟩ => by rw [e]; exact SqL.of fl) ?_ ?_⟩
    · rintro i t σ H' hi ⟨w2, w3, rfl, rfl, pre⟩
      have hi4 : i < 4 := (List.getElem?_eq_some_iff.mp hi).1
      obtain ⟨ti, u, v, n, m, rfl, ht, hu, hv, en, em⟩ : ∃ (ti : Addr) (u v : V) (n m : Int), t = .ref ti ∧ H' ti = some (.tup [u, v]) ∧ MU C U n u H' ∧ MU C U m v H' ∧ n = [s0, p0, b0, e0].getD i 0 ∧ m = [s1, p1, b1, e1].getD i 0 := by
        rcases (show i = 0 ∨ i = 1 ∨ i = 2 ∨ i = 3 by omega) with rfl | rfl | rfl | rfl
        · cases hi; exact ⟨t0, xs, ys, s0, s1, rfl, q0, h1.ex EA, g1.ex EA, rfl, rfl⟩
        · cases hi; exact ⟨t1, xp, yp, p0, p1, rfl, q1, h2.ex EA, g2.ex EA, rfl, rfl⟩
        · cases hi; exact ⟨t2, xb, yb, b0, b1, rfl, q2, h3.ex EA, g3.ex EA, rfl, rfl⟩
        · cases hi; exact ⟨t3, xe, ye, e0, e1, rfl, q3, h4.ex EA, g4.ex EA, rfl, rfl⟩
      obtain ⟨⟨tu, bu, Nu, au, du, rfl, mu⟩, su⟩ := hu
      obtain ⟨⟨tv, bv, Nv, av, dv, rfl, mv'⟩, sv⟩ := hv
      obtain ⟨x1, x2⟩ := cross hU Nu Nv
      refine ⟨ti, _, rfl, SqT.of ht, rfl, _, _, rfl, _, _, rfl, rfl, ?_⟩
      refine ⟨_, rfl, au, C, du, _, _, rfl, mu, T.cl, T.nT, mf_top _ _, _, rfl, av, C, dv, _, _, rfl, mv', T.cl, T.nB, mf_bottom _ _, _, _, rfl, rfl, (Nu.st su).cmul (Nv.sb sU), _, rfl, av, C, dv, _, _, rfl, mv', T.cl, T.nT, mf_top _ _, _, rfl, au, C, du, _, _, rfl, mu, T.cl, T.nB, mf_bottom _ _, _, _, rfl, rfl, (Nv.st sv).cmul (Nu.sb sU), rfl, _, rfl, ite2 (fun c => ?_) (fun c => ?_)⟩
      · have ne : n ≠ m := fun z => by simp [x1.mpr z] at c
        have res : decide (tu * bv < tv * bu) = lt [s0, p0, b0, e0, k0] [s1, p1, b1, e1, k1] := by
          have key : decide (tu * bv < tv * bu) = decide (n < m) := decide_eq_decide.mpr x2
          rw [key]
          clear key
          simp only [en, em]
          rw [en, em] at ne
          have p0' := pre 0
          have p1' := pre 1
          have p2' := pre 2
          clear hi c x1 x2
          rcases (show i = 0 ∨ i = 1 ∨ i = 2 ∨ i = 3 by omega) with rfl | rfl | rfl | rfl
          · have ne : s0 ≠ s1 := ne
            simp [lt_cons, ne]
          · have ne : p0 ≠ p1 := ne
            have z0 : s0 = s1 := p0' (by omega)
            simp [lt_cons, ne, z0]
          · have ne : b0 ≠ b1 := ne
            have z0 : s0 = s1 := p0' (by omega)
            have z1 : p0 = p1 := p1' (by omega)
            simp [lt_cons, ne, z0, z1]
          · have ne : e0 ≠ e1 := ne
            have z0 : s0 = s1 := p0' (by omega)
            have z1 : p0 = p1 := p1' (by omega)
            have z2 : b0 = b1 := p2' (by omega)
            simp [lt_cons, ne, z0, z1, z2]
        refine ⟨_, rfl, au, C, du, _, _, rfl, mu, T.cl, T.nT, mf_top _ _, _, rfl, av, C, dv, _, _, rfl, mv', T.cl, T.nB, mf_bottom _ _, _, _, rfl, rfl, (Nu.st su).cmul (Nv.sb sU), _, rfl, av, C, dv, _, _, rfl, mv', T.cl, T.nT, mf_top _ _, _, rfl, au, C, du, _, _, rfl, mu, T.cl, T.nB, mf_bottom _ _, _, _, rfl, rfl, (Nv.st sv).cmul (Nu.sb sU), _, _, rfl, rfl, ?_⟩
        show Q (.bl (decide (tu * bv < tv * bu))) H'
        rw [res]
        exact k _ EA
      · have eq : n = m := x1.mp (by simpa using c)
        refine ⟨_, _, rfl, rfl, fun j hj => ?_⟩
        by_cases z : j = i
        · rw [z, ← en, ← em, eq]
        · exact pre j (by omega)
    · rintro σ H' ⟨w2, w3, rfl, rfl, pre⟩
      have z0 : s0 = s1 := pre 0 (by show 0 < 4; decide)
      have z1 : p0 = p1 := pre 1 (by show 1 < 4; decide)
      have z2 : b0 = b1 := pre 2 (by show 2 < 4; decide)
      have z3 : e0 = e1 := pre 3 (by show 3 < 4; decide)
      refine ⟨_, rfl, am, CM, dm, _, _, rfl, EA _ _ hm, TK.cl, TK.aT, kf_tone, _, rfl, an, CM, dn, _, _, rfl, EA _ _ hn, TK.cl, TK.aT, kf_tone, _, _, rfl, rfl, ?_⟩
      have res : decide (k0 < k1) = lt [s0, p0, b0, e0, k0] [s1, p1, b1, e1, k1] := by
        by_cases z : k0 = k1
        · simp [lt_cons, z0, z1, z2, z3, z, lt_nil]
        · simp [lt_cons, z0, z1, z2, z3, z]
      show Q (.bl (decide (k0 < k1))) H'
      rw [res]
      exact k _ EA
/-! ### in order -/
abbrev sIr : Stmt := top 124
theorem scIr : FnScope ["_law_marks_here", "_law_k"] ["_law_marks_here"] (defScope sIr) := ⟨rfl, rfl, rfl, by decide +kernel, rfl, by decide +kernel, by decide +kernel⟩
def spIr (CM C : Addr) : Sp := fun vs H Q _ => ∃ (U : Int) (L : List Row) (a : Addr) (xs : List V), vs = [.ref a] ∧ H a = some (.lst xs) ∧ Al (MrU CM C U) H L xs ∧ 0 < U ∧ Sm 390 U ∧ L.length ≤ 100000 ∧ L.Pairwise (fun r q => lt r q = true) ∧ ∀ H', Ex H H' → Q (.bl true) H'
theorem ok_inorder {CM f : Addr} {fd : FuncData} (F : Fun K "_law_in_order" "_law_in_order" sIr f fd) (T : Txt K mg C) (OB : Ok P w K mg base CX0 1 "_law_before" ["_law_a", "_law_b"] (spBf CM C)) : FnOk P w K mg base CX0 2 f fd ["_law_marks_here"] (spIr CM C) := by
  obtain ⟨fBf, fdBf, GBf, mBf, kBf, bBf⟩ := OB
  refine F.ok scIr (fun vs H Q E h => ?_) (fun cdv A outer s H vs Q E hr h => ?_)
  · obtain ⟨U, L, a, xs, rfl, _⟩ := h
    rfl
  · obtain ⟨U, L, a, xs, rfl, ha, hx, hU, sU, hl, hp, k⟩ := h
    have hB : Room 1 _ := hr
    have lx := hx.len
    refine ⟨_, (pss_one (ps_ret (pe_cmpR (op_eqD (hu64 hr)) (pe_lc (own := [("_law_k", 1)]) rfl scIr.nd (pi_range2 rfl T.range (pa_cons pe_int (pa_cons (pe_callB call_len rfl T.len PySem.boot_len (pa_cons (pv 0) pa_nil)) pa_nil))) (blkOk_by (N := ["_law_marks_here", "_law_k"]) (sc := defScope sIr) (by decide +kernel)) (fun _ _ _ _ _ => pg_name (i := 1) scIr.nd rfl (Or.inl rfl)) (fun _ _ _ _ _ => (pts_one (pt_not (pt_val (pe_call GBf hB rfl mBf kBf bBf .nil pass0 (pa_cons (pe_ix (show IxR _ (rIxL K) from ix_list) (pv 0) (pe_op op_sub (pv 1) pe_int) (fun _ _ => rfl)) (pa_cons (pe_ix (show IxR _ (rIxL K) from ix_list) (pv 0) (pv 1) (fun _ _ => rfl)) pa_nil))))))) (fun _ _ _ _ _ => (pv 1))) (pe_lst pa_nil) (nomark _)))), ?_⟩
    refine ⟨_, rfl, _, _, rfl, .inl ⟨_, SqL.of ha, rfl⟩, 1, (xs.length : Nat), rfl, ⟨by decide, by decide, by omega, by omega⟩, fun D hD => lc_range (fun i H' => Ex H H' ∧ H' D = some (.lst [])) ⟨Ex.new hD, upd_same⟩ ?_ ?_⟩
    · rintro i H1 hi ⟨e1, hd⟩
      have hi1 : i + 1 < L.length := by omega
      obtain ⟨va, hva, ma⟩ := hx.get (List.getElem?_eq_getElem (show i < L.length by omega))
      obtain ⟨vb, hvb, mb⟩ := hx.get (List.getElem?_eq_getElem hi1)
      have hlt : lt L[i] L[i + 1] = true := List.pairwise_iff_getElem.mp hp i (i + 1) (by omega) hi1 (by omega)
      have a1 := e1 _ _ ha
      have j0 : atI xs ((1 : Int) + (i : Nat) - 1) = some va := by
        rw [show (1 : Int) + (i : Nat) - 1 = (i : Nat) by omega]
        exact atI_nat hva
      have j1 : atI xs ((1 : Int) + (i : Nat)) = some vb := by
        rw [show (1 : Int) + (i : Nat) = ((i + 1 : Nat) : Int) by omega]
        exact atI_nat hvb
      refine ⟨rfl, _, rfl, _, rfl, _, _, rfl, rfl, a, _, _, _, rfl, rfl, SqL.of a1, j0, _, rfl, _, rfl, a, _, _, _, rfl, rfl, SqL.of a1, j1, U, _, _, _, _, rfl, ma.ex e1, mb.ex e1, hU, sU, fun H2 e2 => ⟨_, rfl, ?_⟩⟩
      rw [hlt]
      exact ⟨e1.trans e2, e2 _ _ hd⟩
    · rintro H1 ⟨e1, hd⟩
      exact ⟨by show 0 ≤ sizeLine; decide, fun o ho => eqnil_rd (L := []) (LoI.nil (Ex.new ho _ _ hd)) (LoI.nil upd_same) (k _ (e1.trans (Ex.new ho)))⟩
/-! ### marks, by isinstance -/
abbrev sIm : Stmt := top 122
theorem scIm : FnScope ["_law_actual", "_law_mark", "_law_one_here"] ["_law_actual"] (defScope sIm) := ⟨rfl, rfl, rfl, by decide +kernel, rfl, by decide +kernel, by decide +kernel⟩
def spIm (CM C : Addr) : Sp := fun vs H Q _ => ∃ (U : Int) (L : List Row) (a : Addr) (xs : List V), vs = [.ref a] ∧ H a = some (.lst xs) ∧ Al (MrU CM C U) H L xs ∧ ∀ H', Ex H H' → Q (.bl true) H'
theorem MU.ty {U n : Int} {v : V} {H : Hp} (T : Txt K mg C) (h : MU C U n v H) : TyX K H v (.ref C) := by
  obtain ⟨⟨t, b, N, m⟩, _⟩ := h
  exact tyM T m
theorem ok_ismarks {CM CK fK f : Addr} {fd : FuncData} (F : Fun K "_law_is_marks" "_law_is_marks" sIm f fd) (T : Txt K mg C) (TK : TxtK K mg CM CK fK) (TE : TxtE K CM) : FnOk P w K mg base CX0 1 f fd ["_law_actual"] (spIm CM C) := by
  refine F.ok scIm (fun vs H Q E h => ?_) (fun cdv A outer s H vs Q E hr h => ?_)
  · obtain ⟨U, L, a, xs, rfl, _⟩ := h
    rfl
  · obtain ⟨U, L, a, xs, rfl, ha, hx, k⟩ := h
    refine ⟨_, (pss_cons (ps_if (pt_not (pt_val (pe_callB (r := rIsi K) call_isi rfl T.isi PyProof.Rows.boot_isinstance (pa_cons (pv 0) (pa_cons (pe_bltn (v := .ty "list") rfl T.lst PyProof.Rows.boot_list rfl) pa_nil))))) (pss_one (ps_ret pe_bl)) pss_nil)
 (pss_cons (ps_for PassesOwn.never rfl (pi_list (pv 0)) (pg_name (i := 1) scIm.nd rfl (Or.inl rfl)) (pss_cons (ps_if (PW.pt (pw_or (pt_not (pt_val (pe_callB (r := rIsi K) call_isi rfl T.isi PyProof.Rows.boot_isinstance (pa_cons (pv 1) (pa_cons (pe_glob (v := .ref CM) rfl TK.mgM rfl) pa_nil))))) (pw_or (pt_not (pt_val (pe_callB (r := rIsi K) call_isi rfl T.isi PyProof.Rows.boot_isinstance (pa_cons (pe_fld (pv 1) rfl) (pa_cons (pe_bltn (v := .ty "int") rfl T.int PyProof.Rows.boot_int rfl) pa_nil))))) (pw_or1 (pt_val (pe_callB (r := rIsi K) call_isi rfl T.isi PyProof.Rows.boot_isinstance (pa_cons (pe_fld (pv 1) rfl) (pa_cons (pe_bltn (v := .ty "bool") rfl T.bool PyProof.Rows.boot_bool rfl) pa_nil)))))))) (pss_one (ps_ret pe_bl)) pss_nil)
 (pss_one (ps_if (pt_cmpR (op_neD (hu64 hr)) (pe_lc (own := [("_law_one_here", 2)]) rfl scIm.nd (pi_list (pe_lst (pa_cons (pe_fld (pv 1) rfl) (pa_cons (pe_fld (pv 1) rfl) (pa_cons (pe_fld (pv 1) rfl) (pa_cons (pe_fld (pv 1) rfl) pa_nil)))))) (blkOk_by (N := ["_law_actual", "_law_mark", "_law_one_here"]) (sc := defScope sIm) (by decide +kernel)) (fun _ _ _ _ _ => pg_name (i := 2) scIm.nd rfl (Or.inl rfl)) (fun _ _ _ _ _ => (pts_one (pt_not (pt_val (pe_callB (r := rIsi K) call_isi rfl T.isi PyProof.Rows.boot_isinstance (pa_cons (pv 2) (pa_cons (pe_glob (v := .ref C) rfl T.mgC rfl) pa_nil))))))) (fun _ _ _ _ _ => (pv 2))) (pe_lst pa_nil) (nomark _)) (pss_one (ps_ret pe_bl)) pss_nil))))
 (pss_one (ps_ret pe_bl)))), ?_⟩
    refine ⟨_, rfl, _, _, _, _, true, rfl, .ty "list", .base (.lst ha), kit_ty (by decide +kernel), _, rfl, iteF ?_⟩
    refine ⟨_, rfl, a, rfl, ⟨_, SqL.of ha⟩, for_list (K := K) (a := a) (xs := xs) (fun i σ H' => ∃ w1 w2, σ = [some (.ref a), w1, w2] ∧ Ex H H') ⟨none, none, rfl, Ex.refl _⟩ (fun i σ H' _ ⟨_, _, _, e⟩ => SqL.of (e _ _ ha)) ?_ ?_⟩
    · rintro i x σ H1 hi ⟨w1, w2, rfl, e1⟩
      obtain ⟨r, hr1, hr2⟩ := hx.getV hi
      obtain ⟨s0, p0, b0, e0, k0, am, d, ys, yp, yb, ye, rfl, rfl, hm, h1, h2, h3, h4⟩ := hr2.ex e1
      have ty : TyX K H1 (.ref am) (.ref CM) := .base (.ins hm TK.cl TE.cls T.clg T.clt TE.obj)
      refine ⟨_, rfl, _, _, _, _, true, rfl, .own CM, ty, TE.isC, _, rfl, iteF ?_⟩
      refine ⟨_, rfl, am, CM, d, _, _, rfl, hm, TK.cl, TK.aT, kf_tone, _, _, _, _, true, rfl, .ty "int", .base (.int k0), kit_ty (by decide +kernel), _, rfl, iteF ?_⟩
      refine ⟨_, rfl, am, CM, d, _, _, rfl, hm, TK.cl, TK.aT, kf_tone, _, _, _, _, false, rfl, .ty "bool", .base (.int k0), kit_ty (by decide +kernel), _, rfl, iteF ?_⟩
      refine ⟨_, rfl, am, CM, d, _, _, rfl, hm, TK.cl, TK.aB, kf_begin, _, rfl, am, CM, d, _, _, rfl, hm, TK.cl, TK.aE, kf_end, _, rfl, am, CM, d, _, _, rfl, hm, TK.cl, TK.aS, kf_start, _, rfl, am, CM, d, _, _, rfl, hm, TK.cl, TK.aP, kf_stop, by show 4 ≤ sizeLine; decide, fun l nl => ?_⟩
      have el : Ex H1 (upd H1 l (.lst [yb, ye, ys, yp])) := Ex.new nl
      have fl : (upd H1 l (.lst [yb, ye, ys, yp])) l = some (.lst [yb, ye, ys, yp]) := upd_same
      generalize upd H1 l (.lst [yb, ye, ys, yp]) = H2 at *
      refine ⟨l, rfl, ⟨_, SqL.of fl⟩, fun D hD => lc_list (xs := [yb, ye, ys, yp]) (fun i H' => Ex H2 H' ∧ H' D = some (.lst [])) ⟨Ex.new hD, upd_same⟩ (fun i H' _ ⟨e, _⟩ => SqL.of (e _ _ fl)) ?_ ?_⟩
      · rintro i y H3 hi ⟨e3, hd⟩
        have e13 := el.trans e3
        have tyy : TyX K H3 y (.ref C) := by
          have hi4 : i < 4 := (List.getElem?_eq_some_iff.mp hi).1
          rcases (show i = 0 ∨ i = 1 ∨ i = 2 ∨ i = 3 by omega) with rfl | rfl | rfl | rfl
          · cases hi; exact (h3.ex e13).ty T
          · cases hi; exact (h4.ex e13).ty T
          · cases hi; exact (h1.ex e13).ty T
          · cases hi; exact (h2.ex e13).ty T
        refine ⟨rfl, _, rfl, _, _, _, _, true, rfl, .own C, tyy, T.isC, _, rfl, iteF ⟨e3, hd⟩⟩
      · rintro H3 ⟨e3, hd⟩
        refine ⟨by show 0 ≤ sizeLine; decide, fun o ho => nenil_rd (L := []) (LoI.nil (Ex.new ho _ _ hd)) (LoI.nil upd_same) ⟨_, rfl, iteB (by simp) ?_⟩⟩
        exact ⟨_, _, rfl, e1.trans (el.trans (e3.trans (Ex.new ho)))⟩
    · rintro σ H1 ⟨w1, w2, rfl, e1⟩
      exact k _ e1
/-! ### rows stand once -/
theorem sep_nodup {D : List Row} (h : Sep D) (hp : ∀ q ∈ D, r0 q < r1 q) : D.Nodup := by
  refine List.Pairwise.imp_of_mem (fun {a b} ha hb g e => ?_) h.gap
  have := hp a ha
  rw [e] at g
  have := hp b hb
  omega
theorem longOf_mem {U : Int} (hU : 0 < U) {L : List Row} (h : ∀ r ∈ L, Row5 r) {x : _} (hx : x ∈ grp (rkey U) L) {q : Row} (hq : q ∈ longOf x.2) : ∃ r ∈ L, rkey U r = x.1 ∧ q.drop 2 = r.drop 2 := by
  have sub : ∀ w ∈ x.2, w ∈ L ∧ rkey U w = x.1 := fun w hw => by
    rw [grp_mem (rkey U) L x hx] at hw
    obtain ⟨h1, h2⟩ := List.mem_filter.mp hw
    exact ⟨h1, of_decide_eq_true h2⟩
  obtain ⟨r, T, ex, ek, hL⟩ := grp_ne (rkey U) L x hx
  unfold longOf at hq
  obtain ⟨u, hu, rfl⟩ := List.mem_map.mp hq
  have hse := se_pos fun r hr => h r (sub r hr).1
  obtain ⟨a, b, rfl⟩ := united_two (fun r hr => hse r ((asc_perm _).mem_iff.mp hr)) u hu
  refine ⟨r, hL, ek, ?_⟩
  rw [ex]
  rfl
theorem long_nodup {U : Int} (hU : 0 < U) {L : List Row} (h : ∀ r ∈ L, Row5 r) : (long (rkey U) L).Nodup := by
  unfold long
  refine List.pairwise_flatMap.mpr ⟨fun x hx => ?_, ?_⟩
  · have sub : ∀ w ∈ x.2, w ∈ L := fun w hw => by
      rw [grp_mem (rkey U) L x hx] at hw
      exact (List.mem_filter.mp hw).1
    have hse := se_pos fun r hr => h r (sub r hr)
    have hp : ∀ r ∈ asc (x.2.map se), r0 r < r1 r := fun r hr => by
      obtain ⟨a, b, rfl, h1⟩ := hse r ((asc_perm _).mem_iff.mp hr)
      exact h1
    obtain ⟨s1, _⟩ := united_sep hp (srt_r0 (fun r hr e => by
      obtain ⟨a, b, e2, _⟩ := hse r ((asc_perm _).mem_iff.mp hr)
      rw [e] at e2
      cases e2) (asc_srt _))
    unfold longOf
    refine List.pairwise_map.mpr (List.Pairwise.imp_of_mem (fun {a b} _ _ ne e => ne (List.append_cancel_right e)) (sep_nodup s1 s1.pos))

  · have k := List.pairwise_map.mp (grp_keys (rkey U) L).1
    refine List.Pairwise.imp_of_mem (fun {x y} hx hy ne q hq q' hq' e => ne ?_) k
    obtain ⟨r, hr, e1, d1⟩ := longOf_mem hU h hx hq
    obtain ⟨r', hr', e2, d2⟩ := longOf_mem hU h hy hq'
    rw [← e1, ← e2]
    exact rkey_of_drop (h r hr) (h r' hr') (by rw [← d1, ← d2, e])
theorem mv_inj0 {S a b : Int} (hS : 0 < S) {q r : Row} (hq : Row5 q) (hr : Row5 r) {i : Nat} (hi : i = 0 ∨ i = 2) (q0 : 0 ≤ q.getD i 0 ∧ q.getD i 0 < S) (r0' : 0 ≤ r.getD i 0 ∧ r.getD i 0 < S) (e : mv (S * a) q = mv (S * b) r) : a = b ∧ q = r := by
  obtain ⟨s, p, b1, e1, k, rfl, _⟩ := hq
  obtain ⟨s', p', b2, e2, k', rfl, _⟩ := hr
  rw [mv_five, mv_five] at e
  injection e with z1 e
  injection e with z2 e
  injection e with z3 e
  injection e with z4 e
  injection e with z5 _
  have ab : a = b := by
    have key : ∀ x y : Int, 0 ≤ x → x < S → 0 ≤ y → y < S → x + S * a = y + S * b → a = b := fun x y x0 x1 y0 y1 h => by
      rcases Int.lt_trichotomy a b with w | w | w
      · have := Int.mul_le_mul_of_nonneg_left (show a + 1 ≤ b by omega) (Int.le_of_lt hS)
        rw [Int.mul_add, Int.mul_one] at this
        omega
      · exact w
      · have := Int.mul_le_mul_of_nonneg_left (show b + 1 ≤ a by omega) (Int.le_of_lt hS)
        rw [Int.mul_add, Int.mul_one] at this
        omega
    rcases hi with rfl | rfl
    · exact key s s' q0.1 q0.2 r0'.1 r0'.2 z1
    · exact key b1 b2 q0.1 q0.2 r0'.1 r0'.2 z3
  subst ab
  refine ⟨rfl, ?_⟩
  rw [show s = s' by omega, show p = p' by omega, show b1 = b2 by omega, show e1 = e2 by omega, z5]
theorem long_mem {U : Int} (hU : 0 < U) {L : List Row} (h : ∀ r ∈ L, Row5 r) {q : Row} (hq : q ∈ long (rkey U) L) : ∃ r ∈ L, q.drop 2 = r.drop 2 := by
  obtain ⟨x, hx, hq⟩ := List.mem_flatMap.mp hq
  obtain ⟨r, hr, _, e⟩ := longOf_mem hU h hx hq
  exact ⟨r, hr, e⟩
theorem ring_nodup {U S : Int} (hU : 0 < U) (hS : 0 < S) {L : List Row} (h : ∀ r ∈ L, Row5 r) : (ringOf U S L).Nodup := by
  have h5 : ∀ r ∈ homedOf U S L, Row5 r := fun r hr => long5 hU (home_row5 h) r ((asc_perm _).mem_iff.mp hr)
  have hb : ∀ r ∈ homedOf U S L, 0 ≤ r.getD 2 0 ∧ r.getD 2 0 < S := fun r hr => by
    have hr' := (asc_perm _).mem_iff.mp hr
    obtain ⟨w, hw, e⟩ := long_mem hU (home_row5 h) hr'
    have b := home_in hS w hw
    obtain ⟨s, p, b1, e1, k, rfl, _⟩ := long5 hU (home_row5 h) r hr'
    obtain ⟨s', p', b2, e2, k', rfl, _⟩ := home_row5 h w hw
    have e : [b1, e1, k] = [b2, e2, k'] := e
    injection e with z1 _
    subst z1
    exact b
  have hN : (homedOf U S L).Nodup := (asc_perm _).nodup_iff.mpr (long_nodup hU (home_row5 h))
  refine (asc_perm _).nodup_iff.mpr ?_
  unfold ringL
  refine List.pairwise_map.mpr (List.Pairwise.imp_of_mem (fun {a b} ha hb' ne e => ne ?_) hN)
  rw [hm_mul, hm_mul] at e
  exact (mv_inj0 hS (h5 a ha) (h5 b hb') (.inr rfl) (hb a ha) (hb b hb') e).2
/-! ### a form's rows are no copies of each other -/
theorem nd_get {R : List Row} (hN : R.Nodup) {i j : Nat} (hi : i < R.length) (hj : j < R.length) (e : R[i] = R[j]) : i = j := by
  have h := List.pairwise_iff_getElem.mp hN
  rcases Nat.lt_trichotomy i j with w | w | w
  · exact absurd e (h i j hi hj w)
  · exact w
  · exact absurd e.symm (h j i hj hi w)
theorem En.inj {S : Int} (hS : 0 < S) {R : List Row} (h5 : ∀ r ∈ R, Row5 r) (hb : ∀ r ∈ R, 0 ≤ r.getD 0 0 ∧ r.getD 0 0 < S) (hN : R.Nodup) (hl : 0 < R.length) {i j : Nat} (e : En S R i = En S R j) : i = j := by
  unfold En at e
  have mi := Nat.mod_lt i hl
  have mj := Nat.mod_lt j hl
  obtain ⟨e1, e2⟩ := mv_inj0 hS (h5 _ (getD_mem mi)) (h5 _ (getD_mem mj)) (.inl rfl) (hb _ (getD_mem mi)) (hb _ (getD_mem mj)) e
  have e2 : R[i % R.length] = R[j % R.length] := by
    rw [List.getD_eq_getElem?_getD, List.getD_eq_getElem?_getD, List.getElem?_eq_getElem mi, List.getElem?_eq_getElem mj] at e2
    exact e2
  have e3 : i % R.length = j % R.length := nd_get hN mi mj e2
  have e4 : i / R.length = j / R.length := by omega
  rw [← Nat.div_add_mod i R.length, ← Nat.div_add_mod j R.length, e3, e4]
theorem form_En {U S n : Int} {m : Nat} {R : List Row} (hm : m ≤ R.length) (hl : 0 < R.length) (h5 : ∀ r ∈ R, Row5 r) (ht : ∀ i, En S R (i + m) = mv n (En S R i)) : formRows U n m R = (List.range ((nb U n).toNat * m)).map (En S R) := by
  unfold formRows
  generalize (nb U n).toNat = k
  induction k with
  | zero => simp
  | succ k ih =>
    rw [List.range_succ, List.flatMap_append, ih, Nat.succ_mul, List.range_add, List.map_append, List.map_map]
    congr 1
    rw [List.flatMap_singleton]
    refine List.ext_getElem (by simp [Nat.min_eq_left hm]) fun i h1 h2 => ?_
    have hi : i < m := by simpa using h2
    simp only [List.getElem_map, List.getElem_take, List.getElem_range, Function.comp]
    rw [Nat.add_comm, En.turns ht h5 hl i k, En.lt h5 (by omega)]
    congr 1
    rw [List.getD_eq_getElem?_getD, List.getElem?_eq_getElem (by omega)]
    rfl
/-- no two rows are copies of each other by whole spans -/
def Dst (S : Int) (L : List Row) : Prop := L.Pairwise fun q r => ∀ a b : Int, mv (S * a) q ≠ mv (S * b) r
theorem form_dst {U S n : Int} {m : Nat} {R : List Row} (hU : 0 < U) (hS : 0 < S) (hm : m ≤ R.length) (hl : 0 < R.length) (h5 : ∀ r ∈ R, Row5 r) (hb : ∀ r ∈ R, 0 ≤ r.getD 0 0 ∧ r.getD 0 0 < S) (hN : R.Nodup) (ht : ∀ i, En S R (i + m) = mv n (En S R i)) : Dst (nt U n * U) (formRows U n m R) := by
  unfold Dst
  rw [form_En hm hl h5 ht, form_span hU]
  have hB : 0 < nb U n := (norm_mk (n := n) (Int.ne_of_gt hU)).pos
  obtain ⟨B, eB⟩ : ∃ B : Nat, nb U n = (B : Nat) := ⟨(nb U n).toNat, by omega⟩
  rw [eB, Int.toNat_natCast]
  refine List.pairwise_map.mpr (List.Pairwise.imp_of_mem (fun {x y} hx hy xy a b e => ?_) (List.pairwise_lt_range (n := B * m)))
  have hx := List.mem_range.mp hx
  have hy := List.mem_range.mp hy
  -- move both by the same whole spans
  have e2 : ∀ c : Int, mv (n * (B : Nat) * (a + c)) (En S R x) = mv (n * (B : Nat) * (b + c)) (En S R y) := fun c => by
    rw [Int.mul_add, Int.mul_add, ← mv_mv, ← mv_mv, e]
  have nat : ∀ (c : Nat) (i : Nat), mv (n * (B : Nat) * (c : Nat)) (En S R i) = En S R (i + c * (B * m)) := fun c i => by
    rw [show c * (B * m) = (c * B) * m by rw [Nat.mul_assoc], En.turns ht h5 hl i (c * B)]
    congr 1
    rw [Int.natCast_mul, Int.mul_assoc, Int.mul_comm (B : Int)]
  obtain ⟨a', ea⟩ : ∃ a' : Nat, a + (a.natAbs + b.natAbs : Nat) = (a' : Nat) := ⟨(a + (a.natAbs + b.natAbs : Nat)).toNat, by omega⟩
  obtain ⟨b', eb⟩ : ∃ b' : Nat, b + (a.natAbs + b.natAbs : Nat) = (b' : Nat) := ⟨(b + (a.natAbs + b.natAbs : Nat)).toNat, by omega⟩
  have e3 := e2 (a.natAbs + b.natAbs : Nat)
  rw [ea, eb, nat, nat] at e3
  have e4 := En.inj hS h5 hb hN hl e3
  have e5 := congrArg (· % (B * m)) e4
  simp only [Nat.add_mul_mod_self_right, Nat.mod_eq_of_lt hx, Nat.mod_eq_of_lt hy] at e5
  omega
theorem TuneOf.dst {U z z' : Int} {L L' : List Row} (h : TuneOf U z L z' L') (hU : 0 < U) (hz : 0 < z) (h5 : ∀ r ∈ L, Row5 r) : Dst (z' * U) L' := by
  have hS : 0 < z * U := Int.mul_pos hz hU
  rcases h with ⟨h1, rfl, rfl⟩ | ⟨h1, m, n, h2, h3, rfl, rfl⟩
  · exact .nil
  · have hl := List.length_pos_iff.mpr h1
    have r5 := ring_row5 (S := z * U) hU h5
    exact form_dst hU hS (turn_le hl h2 keys_len).1 hl r5 (ring_in hS) (ring_nodup hU hS h5) (En.span_turn hU r5 h2 hl h3)
structure TxtM (K : PySem.W.Frag) (CM : Addr) : Prop where
  cc : PySem.W.findIn K (.ref CM) "__class__" = some (some (.builtin "object.__class__"))
  ob : PySem.W.mroIn K CM (.type "object") = some true
abbrev sKE : Stmt := inClass (top 56) 1
theorem scKE : FnScope ["self", "other"] ["self", "other"] (defScope sKE) := ⟨rfl, rfl, rfl, by decide +kernel, rfl, by decide +kernel, by decide +kernel⟩
theorem ok_keq {CM CK f fK fE : Addr} {fd dE : FuncData} (F : Fun K "__eq__" "Mark.__eq__" sKE f fd) (T : Txt K mg C) (TK : TxtK K mg CM CK fK) (TM : TxtM K CM) (heq : PySem.W.findIn K (.ref C) "__eq__" = some (some (.ref fE))) (heqf : PySem.W.isFn K (.ref fE) = true) (EF : FnOk P w K mg base CX0 1 fE dE ["self", "other"] (spEq2 C)) (Eb : Binds K dE ["self", "other"] []) :
    FnOk P w K mg base CX0 4 f fd ["self", "other"] (spKEq2 CM C) := by
  refine F.ok scKE (fun vs H Q E h => ?_) (fun cdv A outer s H vs Q E hr h => ?_)
  · obtain ⟨x, y, m, m', rfl, _⟩ := h
    rfl
  · obtain ⟨x, y, m, m', rfl, ⟨a, dx, b, e, s1, t, rfl, ha, hb, he, hs, ht⟩, ⟨a2, dx2, b2, e2, s2, t2, rfl, ha2, hb2, he2, hs2, ht2⟩, k⟩ := h
    let X := (cxOf CX0 P w K mg base ["self", "other"] "Mark.__eq__" (defScope sKE) f cdv A outer s H E).nox
    have oEq := op_cmp (X := X) (C := C) (op := .Eq) (E := E0) (fun _ _ => rfl) heq heqf EF (hr.mono (by decide)) Eb pass0
    refine ⟨_, (pss_one (ps_ret (pe_and (pe_callB (r := rIsi K) call_isi rfl T.isi PyProof.Rows.boot_isinstance (pa_cons (pv 1) (pa_cons (pe_glob (v := .ref CM) rfl TK.mgM rfl) pa_nil))) (pe_and (pe_cmpR op_eq (pe_fld (pv 0) rfl) (pe_fld (pv 1) rfl) (nomark _)) (pe_and (pe_cmpR oEq (pe_fld (pv 0) rfl) (pe_fld (pv 1) rfl) (nomark _)) (pe_and (pe_cmpR oEq (pe_fld (pv 0) rfl) (pe_fld (pv 1) rfl) (nomark _)) (pe_and (pe_cmpR oEq (pe_fld (pv 0) rfl) (pe_fld (pv 1) rfl) (nomark _)) (pe_one (pe_cmpR oEq (pe_fld (pv 0) rfl) (pe_fld (pv 1) rfl) (nomark _)))))))))), ?_⟩
    refine ⟨_, rfl, _, _, _, _, true, rfl, .own CM, .base (.ins ha2 TK.cl TM.cc T.clg T.clt TM.ob), kit_self, true, rfl, iteT ?_⟩
    refine ⟨_, rfl, a, CM, dx, _, _, rfl, ha, TK.cl, TK.aT, kf_tone, _, rfl, a2, CM, dx2, _, _, rfl, ha2, TK.cl, TK.aT, kf_tone, rfl, _, rfl, ite2 (fun h1 => ?_) (fun h1 => ?_)⟩
    rotate_left
    · exact k _ H ⟨fun z => Bool.noConfusion z, fun z => absurd (decide_eq_true (by rw [z])) h1⟩ (Ex.refl _)
    have q1 : m.n = m'.n := by
      have z := of_decide_eq_true h1
      injection z
    refine ⟨_, rfl, a, CM, dx, _, _, rfl, ha, TK.cl, TK.aB, kf_begin, _, rfl, a2, CM, dx2, _, _, rfl, ha2, TK.cl, TK.aB, kf_begin, hb.isC, hb2.par, _, _, _, _, rfl, hb, .inl ⟨_, _, hb2, fun k1 H1 x1 hk1 => ⟨k1, rfl, ite2 (fun h2 => ?_) (fun h2 => ?_)⟩⟩⟩
    rotate_left
    · exact k _ H1 ⟨fun z => Bool.noConfusion z, fun z => absurd (hk1.mpr (by rw [z]; exact ⟨rfl, rfl⟩)) h2⟩ x1
    have q2 : m.b = m'.b := Prod.ext (hk1.mp h2).1 (hk1.mp h2).2
    have ha := x1 _ _ ha
    have ha2 := x1 _ _ ha2
    refine ⟨_, rfl, a, CM, dx, _, _, rfl, ha, TK.cl, TK.aE, kf_end, _, rfl, a2, CM, dx2, _, _, rfl, ha2, TK.cl, TK.aE, kf_end, (he.ex x1).isC, (he2.ex x1).par, _, _, _, _, rfl, he.ex x1, .inl ⟨_, _, he2.ex x1, fun k2 H2 x2 hk2 => ⟨k2, rfl, ite2 (fun h3 => ?_) (fun h3 => ?_)⟩⟩⟩
    rotate_left
    · exact k _ H2 ⟨fun z => Bool.noConfusion z, fun z => absurd (hk2.mpr (by rw [z]; exact ⟨rfl, rfl⟩)) h3⟩ (x1.trans x2)
    have q3 : m.e = m'.e := Prod.ext (hk2.mp h3).1 (hk2.mp h3).2
    have ha := x2 _ _ ha
    have ha2 := x2 _ _ ha2
    have x12 := x1.trans x2
    refine ⟨_, rfl, a, CM, dx, _, _, rfl, ha, TK.cl, TK.aS, kf_start, _, rfl, a2, CM, dx2, _, _, rfl, ha2, TK.cl, TK.aS, kf_start, (hs.ex x12).isC, (hs2.ex x12).par, _, _, _, _, rfl, hs.ex x12, .inl ⟨_, _, hs2.ex x12, fun k3 H3 x3 hk3 => ⟨k3, rfl, ite2 (fun h4 => ?_) (fun h4 => ?_)⟩⟩⟩
    rotate_left
    · exact k _ H3 ⟨fun z => Bool.noConfusion z, fun z => absurd (hk3.mpr (by rw [z]; exact ⟨rfl, rfl⟩)) h4⟩ (x12.trans x3)
    have q4 : m.s = m'.s := Prod.ext (hk3.mp h4).1 (hk3.mp h4).2
    have ha := x3 _ _ ha
    have ha2 := x3 _ _ ha2
    have x13 := x12.trans x3
    refine ⟨_, rfl, a, CM, dx, _, _, rfl, ha, TK.cl, TK.aP, kf_stop, _, rfl, a2, CM, dx2, _, _, rfl, ha2, TK.cl, TK.aP, kf_stop, (ht.ex x13).isC, (ht2.ex x13).par, _, _, _, _, rfl, ht.ex x13, .inl ⟨_, _, ht2.ex x13, fun k4 H4 x4 hk4 => ?_⟩⟩
    exact k _ H4 ⟨fun z => kt_ext.mpr ⟨q1, q2, q3, q4, Prod.ext (hk4.mp z).1 (hk4.mp z).2⟩, fun z => hk4.mpr (by rw [z]; exact ⟨rfl, rfl⟩)⟩ (x13.trans x4)
/-! ### equal marks -/
theorem MU.std {U n : Int} {v : V} {H : Hp} (hU : 0 < U) (h : MU C U n v H) : Mo C (nt U n) (nb U n) v H := by
  obtain ⟨⟨t, b, N, m⟩, _⟩ := h
  have N2 : Norm n U (nt U n) (nb U n) := norm_mk (n := n) (Int.ne_of_gt hU)
  have e : t = nt U n ∧ b = nb U n := red_eq N.red N2.red (by
    have h1 := N.eq
    have h2 := N2.eq
    exact Int.eq_of_mul_eq_mul_left (Int.ne_of_gt hU) (by grind))
  rw [← e.1, ← e.2]
  exact m
def ktOf (U : Int) (r : Row) : KT := { n := r.getD 4 0, b := (nt U (r.getD 2 0), nb U (r.getD 2 0)), e := (nt U (r.getD 3 0), nb U (r.getD 3 0)), s := (nt U (r.getD 0 0), nb U (r.getD 0 0)), t := (nt U (r.getD 1 0), nb U (r.getD 1 0)) }
theorem MrU.mk {CM : Addr} {U : Int} {r : Row} {v : V} {H : Hp} (hU : 0 < U) (h : MrU CM C U r v H) : MkA CM C (ktOf U r) v H := by
  obtain ⟨s0, p0, b0, e0, k0, a, d, xs, xp, xb, xe, rfl, rfl, ha, h1, h2, h3, h4⟩ := h
  exact ⟨a, d, xb, xe, xs, xp, rfl, ha, h3.std hU, h4.std hU, h1.std hU, h2.std hU⟩
def RMk (CM C : Addr) : Addr → Addr → Hp → Prop := fun a b H => ∃ m, MkA CM C m (.ref a) H ∧ MkA CM C m (.ref b) H
theorem keq_imp {CM : Addr} : ∀ vs H Q E, spEq (RMk CM C) vs H Q E → spKEq2 CM C vs H Q E := fun vs H Q E h => by
  obtain ⟨a, b, rfl, ⟨m, h1, h2⟩, k⟩ := h
  exact ⟨_, _, m, m, rfl, h1, h2, fun c H' hc e => by
    obtain rfl : c = true := hc.mpr rfl
    exact k H' e⟩
/-! ### what is shown tells the longest parts, and the least span -/
theorem nf_sub {O O' : Row → Prop} (N : NF O) (N' : NF O') (h : ∀ t b e k : Int, Shw O t b e k ↔ Shw O' t b e k) {r : Row} (hr : O r) : O' r := by
  obtain ⟨s, p, b, e, k, rfl, g1, g2, g3⟩ := N.row r hr
  obtain ⟨s2, p2, o2, h1, h2⟩ := (h s b e k).mp ⟨s, p, hr, Int.le_refl _, g2⟩
  have es : s2 = s := by
    refine Int.le_antisymm h1 (Int.not_lt.mp fun c => ?_)
    obtain ⟨s3, p3, o3, h3, h4⟩ := (h (s - 1) b e k).mpr ⟨s2, p2, o2, by omega, by omega⟩
    rcases N.sep o3 hr with ⟨w, _⟩ | w | w <;> omega
  subst es
  have ep : p2 = p := by
    rcases Int.lt_trichotomy p2 p with c | c | c
    · obtain ⟨s4, p4, o4, h3, h4⟩ := (h p2 b e k).mp ⟨s2, p, hr, by omega, c⟩
      rcases N'.sep o4 o2 with ⟨_, w⟩ | w | w <;> omega
    · exact c
    · obtain ⟨s3, p3, o3, h3, h4⟩ := (h p b e k).mpr ⟨s2, p2, o2, by omega, c⟩
      rcases N.sep o3 hr with ⟨_, w⟩ | w | w <;> omega
  subst ep
  exact o2
theorem nf_eq {O O' : Row → Prop} (N : NF O) (N' : NF O') (h : ∀ t b e k : Int, Shw O t b e k ↔ Shw O' t b e k) (r : Row) : O r ↔ O' r :=
  ⟨nf_sub N N' h, nf_sub N' N fun t b e k => (h t b e k).symm⟩
/-- what is shown is the same, so much later -/
def Per (O : Row → Prop) (D : Int) : Prop := ∀ t b e k : Int, Shw O (t + D) (b + D) (e + D) k ↔ Shw O t b e k
theorem Per.neg {O : Row → Prop} {D : Int} (h : Per O D) : Per O (-D) := fun t b e k => by
  have := h (t + -D) (b + -D) (e + -D) k
  rw [Int.neg_add_cancel_right, Int.neg_add_cancel_right, Int.neg_add_cancel_right] at this
  exact this.symm
theorem Per.move {O : Row → Prop} {D : Int} (N : NF O) (h : Per O D) {r : Row} (hr : O r) : O (mv D r) := by
  have N' : NF (fun r => Row5 r ∧ O (mv D r)) := ⟨fun r h => h.1, fun {s p s' p' b e k} o o' => by
    have o1 : O [s + D, p + D, b + D, e + D, k] := o.2
    have o2 : O [s' + D, p' + D, b + D, e + D, k] := o'.2
    rcases N.sep o1 o2 with ⟨w1, w2⟩ | w | w
    · exact .inl ⟨by omega, by omega⟩
    · exact .inr (.inl (by omega))
    · exact .inr (.inr (by omega))⟩
  refine (nf_sub N N' (fun t b e k => ?_) hr).2
  rw [← h t b e k]
  constructor
  · rintro ⟨s, p, o, h1, h2⟩
    have q := N.row _ o
    obtain ⟨s', p', b', e', k', er, g1, g2, g3⟩ := id q
    injection er with z1 er
    injection er with z2 er
    injection er with z3 er
    injection er with z4 er
    injection er with z5 _
    refine ⟨s - D, p - D, ⟨⟨_, _, _, _, _, rfl, by omega, by omega, by omega⟩, ?_⟩, by omega, by omega⟩
    rw [mv_five, Int.sub_add_cancel, Int.sub_add_cancel]
    exact o
  · rintro ⟨s, p, ⟨_, o⟩, h1, h2⟩
    exact ⟨s + D, p + D, o, by omega, by omega⟩
theorem lt_five {s p b e k s' p' b' e' k' : Int} : lt [s, p, b, e, k] [s', p', b', e', k'] = true ↔ s < s' ∨ (s = s' ∧ (p < p' ∨ (p = p' ∧ (b < b' ∨ (b = b' ∧ (e < e' ∨ (e = e' ∧ k < k'))))))) := by
  simp only [lt_cons, lt_nil]
  split <;> rename_i c1
  · split <;> rename_i c2
    · split <;> rename_i c3
      · split <;> rename_i c4
        · split <;> rename_i c5
          · simp
            omega
          · simp
            omega
        · simp
          omega
      · simp
        omega
    · simp
      omega
  · simp
    omega
theorem lt_mv {n : Int} {q r : Row} (hq : Row5 q) (hr : Row5 r) : lt (mv n q) (mv n r) = true ↔ lt q r = true := by
  obtain ⟨s, p, b, e, k, rfl, _⟩ := hq
  obtain ⟨s', p', b', e', k', rfl, _⟩ := hr
  rw [mv_five, mv_five, lt_five, lt_five]
  constructor <;> intro h <;> omega
theorem lt_st {q r : Row} (hq : Row5 q) (hr : Row5 r) (h : lt q r = true) : q.getD 0 0 ≤ r.getD 0 0 := by
  obtain ⟨s, p, b, e, k, rfl, _⟩ := hq
  obtain ⟨s', p', b', e', k', rfl, _⟩ := hr
  rw [lt_five] at h
  show s ≤ s'
  omega
theorem st_lt {q r : Row} (hq : Row5 q) (hr : Row5 r) (h : q.getD 0 0 < r.getD 0 0) : lt q r = true := by
  obtain ⟨s, p, b, e, k, rfl, _⟩ := hq
  obtain ⟨s', p', b', e', k', rfl, _⟩ := hr
  rw [lt_five]
  exact .inl h
/-- the ring's rows: in order, each once, from 0 on -/
structure Rg (S : Int) (R : List Row) : Prop where
  pS : 0 < S
  pos : 0 < R.length
  r5 : ∀ r ∈ R, Row5 r
  bd : ∀ r ∈ R, 0 ≤ r.getD 0 0 ∧ r.getD 0 0 < S
  str : R.Pairwise fun r q => lt r q = true
section
variable {S : Int} {R : List Row}
theorem Rg.st (h : Rg S R) (i : Nat) : S * ((i / R.length : Nat) : Int) ≤ (En S R i).getD 0 0 ∧ (En S R i).getD 0 0 < S * ((i / R.length : Nat) : Int) + S := by
  have b := h.bd _ (getD_mem (Nat.mod_lt i h.pos))
  unfold En
  rw [mv_st]
  omega
theorem Rg.lt (h : Rg S R) {i j : Nat} (hij : i < j) : lt (En S R i) (En S R j) = true := by
  have d := Nat.div_le_div_right (c := R.length) (Nat.le_of_lt hij)
  rcases Nat.eq_or_lt_of_le d with e | c
  · have mi := Nat.mod_lt i h.pos
    have mj := Nat.mod_lt j h.pos
    have di := Nat.div_add_mod i R.length
    have dj := Nat.div_add_mod j R.length
    rw [← e] at dj
    have ml : i % R.length < j % R.length := by omega
    unfold En
    rw [← e]
    refine (lt_mv (h.r5 _ (getD_mem mi)) (h.r5 _ (getD_mem mj))).mpr ?_
    have := List.pairwise_iff_getElem.mp h.str _ _ mi mj ml
    rw [List.getD_eq_getElem?_getD, List.getD_eq_getElem?_getD, List.getElem?_eq_getElem mi, List.getElem?_eq_getElem mj]
    exact this
  · refine st_lt (En.row h.r5 h.pos i) (En.row h.r5 h.pos j) ?_
    have a := (h.st i).2
    have b := (h.st j).1
    have := Int.mul_le_mul_of_nonneg_left (show ((i / R.length : Nat) : Int) + 1 ≤ ((j / R.length : Nat) : Int) by omega) (Int.le_of_lt h.pS)
    rw [Int.mul_add, Int.mul_one] at this
    omega
theorem Rg.lt_iff (h : Rg S R) {i j : Nat} : Mo.lt (En S R i) (En S R j) = true ↔ i < j := by
  refine ⟨fun c => ?_, h.lt⟩
  rcases Nat.lt_trichotomy i j with w | w | w
  · exact w
  · subst w
    rw [lt_irrefl] at c
    cases c
  · rw [lt_asymm (h.lt w)] at c
    cases c
theorem Rg.ob (h : Rg S R) (i : Nat) : Ob S R (En S R i) := ⟨_, getD_mem (Nat.mod_lt i h.pos), _, rfl⟩
theorem Rg.has (h : Rg S R) {r : Row} (o : Ob S R r) (h0 : 0 ≤ r.getD 0 0) : ∃ i, r = En S R i := by
  obtain ⟨q, hq, j, rfl⟩ := o
  obtain ⟨a, ha⟩ := List.getElem?_of_mem hq
  have al := (List.getElem?_eq_some_iff.mp ha).1
  obtain ⟨b1, b2⟩ := h.bd q hq
  rw [mv_st] at h0
  have j0 : 0 ≤ j := by
    refine Int.not_lt.mp fun c => ?_
    have := Int.mul_le_mul_of_nonneg_left (show j ≤ -1 by omega) (Int.le_of_lt h.pS)
    omega
  obtain ⟨c, rfl⟩ : ∃ c : Nat, j = (c : Nat) := ⟨j.toNat, by omega⟩
  refine ⟨a + R.length * c, ?_⟩
  unfold En
  rw [Nat.add_mul_mod_self_left, Nat.add_mul_div_left _ _ h.pos, Nat.mod_eq_of_lt al, Nat.div_eq_of_lt al, Nat.zero_add, getD_at ha]
/-- moved by a span, the rows are the rows from a place on -/
theorem Rg.moves (h : Rg S R) {D : Int} (hD : 0 < D) (p : ∀ r, Ob S R r → Ob S R (mv D r)) (p' : ∀ r, Ob S R r → Ob S R (mv (-D) r)) : ∃ j, 0 < j ∧ ∀ i, En S R (i + j) = mv D (En S R i) := by
  have r5 := fun i => En.row (S := S) h.r5 h.pos i
  have s0 := (h.st 0).1
  have z0 : (0 : Nat) / R.length = 0 := Nat.zero_div _
  rw [z0] at s0
  have s0 : S * 0 ≤ _ := s0
  rw [Int.mul_zero] at s0
  obtain ⟨j, hj⟩ := h.has (p _ (h.ob 0)) (by rw [mv_st]; omega)
  have jp : 0 < j := by
    rcases Nat.eq_zero_or_pos j with c | c
    · subst c
      have := congrArg (fun r => r.getD 0 0) hj
      have : (En S R 0).getD 0 0 + D = (En S R 0).getD 0 0 := this
      omega
    · exact c
  refine ⟨j, jp, fun i => ?_⟩
  induction i with
  | zero =>
    rw [Nat.zero_add]
    exact hj.symm
  | succ i ih =>
    have up : ∀ i, 0 ≤ (En S R i).getD 0 0 := fun i => by
      have a := (h.st i).1
      have := Int.mul_nonneg (Int.le_of_lt h.pS) (Int.natCast_nonneg (i / R.length))
      omega
    obtain ⟨x, hx⟩ := h.has (p _ (h.ob (i + 1))) (by
      have := up (i + 1)
      rw [mv_st]
      omega)
    have l1 : Mo.lt (En S R (i + j)) (En S R x) = true := by
      rw [ih, ← hx]
      exact (lt_mv (r5 i) (r5 (i + 1))).mpr (h.lt (by omega))
    have l1 := h.lt_iff.mp l1
    have xe : x = i + 1 + j := by
      rcases Nat.lt_or_ge (i + 1 + j) x with c | c
      · -- the row in between
        have l2 := h.lt (i := i + j) (j := i + 1 + j) (by omega)
        have l3 := h.lt c
        rw [ih] at l2
        rw [← hx] at l3
        have rb := r5 (i + 1 + j)
        generalize hw : En S R (i + 1 + j) = w at *
        have ow : Ob S R w := by
          rw [← hw]
          exact h.ob _
        have ew : mv D (mv (-D) w) = w := by rw [mv_mv, Int.add_left_neg, mv_zero rb]
        have rw' : Row5 (mv (-D) w) := rb.mv _
        rw [← ew] at l2 l3
        have l2 := (lt_mv (r5 i) rw').mp l2
        have l3 := (lt_mv rw' (r5 (i + 1))).mp l3
        obtain ⟨y, hy⟩ := h.has (p' _ ow) (by
          have := lt_st (r5 i) rw' l2
          have := up i
          omega)
        rw [hy] at l2 l3
        have := h.lt_iff.mp l2
        have := h.lt_iff.mp l3
        omega
      · omega
    rw [← xe, hx]
end
theorem per_mul {α : Type} {κ : Nat → α} {a : Nat} (h : ∀ i, κ (i + a) = κ i) (q i : Nat) : κ (i + a * q) = κ i := by
  induction q with
  | zero => rfl
  | succ q ih => rw [Nat.mul_succ, ← Nat.add_assoc, h, ih]
theorem per_gcd {α : Type} {κ : Nat → α} (a b : Nat) : (∀ i, κ (i + a) = κ i) → (∀ i, κ (i + b) = κ i) → ∀ i, κ (i + Nat.gcd a b) = κ i := by
  induction a, b using Nat.gcd.induction with
  | H0 n =>
    intro _ h
    rw [Nat.gcd_zero_left]
    exact h
  | H1 m n hm ih =>
    intro h1 h2
    rw [Nat.gcd_rec]
    refine ih (fun i => ?_) h1
    rw [← per_mul h1 (n / m) (i + n % m), Nat.add_assoc, Nat.mod_add_div]
    exact h2 i
theorem ringKey_mv {U af d : Int} {r : Row} : ringKey U (af + d) (mv d r) = ringKey U af r := by
  unfold ringKey
  have e1 : af + d - (mv d r).getD 0 0 = af - r.getD 0 0 := by rw [mv_st]; omega
  have e2 : (mv d r).getD 1 0 - (mv d r).getD 0 0 = r.getD 1 0 - r.getD 0 0 := by
    show r.getD 1 0 + d - (r.getD 0 0 + d) = _
    omega
  have e3 : (mv d r).getD 2 0 - (mv d r).getD 0 0 = r.getD 2 0 - r.getD 0 0 := by
    show r.getD 2 0 + d - (r.getD 0 0 + d) = _
    omega
  have e4 : (mv d r).getD 3 0 - (mv d r).getD 0 0 = r.getD 3 0 - r.getD 0 0 := by
    show r.getD 3 0 + d - (r.getD 0 0 + d) = _
    omega
  rw [e1, e2, e3, e4]
  rfl
section
variable {U S n : Int} {R : List Row} {m : Nat}
def kap (U S : Int) (R : List Row) (i : Nat) : List Key := ringKey U ((En S R (i + 1)).getD 0 0) (En S R i)
theorem kap_at (hl : 0 < R.length) (i : Nat) : kap U S R i = ringKey U (afterAt S R (i % R.length)) (R.getD (i % R.length) []) := by
  unfold kap
  have g := En.gap (S := S) hl i
  have e : (En S R (i + 1)).getD 0 0 = afterAt S R (i % R.length) + S * ((i / R.length : Nat) : Int) := by
    have : (En S R i).getD 0 0 = (R.getD (i % R.length) []).getD 0 0 + S * ((i / R.length : Nat) : Int) := rfl
    omega
  rw [e]
  exact ringKey_mv
theorem kap_mv {D : Int} {j : Nat} (h : ∀ i, En S R (i + j) = mv D (En S R i)) (i : Nat) : kap U S R (i + j) = kap U S R i := by
  unfold kap
  rw [show i + j + 1 = i + 1 + j by omega, h, h]
  exact ringKey_mv
theorem kap_rot (hl : 0 < R.length) {g : Nat} (hg : g ∣ R.length) (h : ∀ i, kap U S R (i + g) = kap U S R i) : Rot (ringKeys U S R) g := by
  have gl := Nat.le_of_dvd hl hg
  have kl : (ringKeys U S R).length = R.length := keys_len
  refine ⟨by rw [kl]; exact Nat.mod_eq_zero_of_dvd hg, ?_⟩
  have at_ : ∀ i, i < R.length → (ringKeys U S R)[i]? = some (kap U S R i) := fun i hi => by
    rw [keys_at hi, kap_at hl, Nat.mod_eq_of_lt hi]
  have pl : ∀ i, kap U S R (i + R.length) = kap U S R i := kap_mv (En.span hl)
  refine List.ext_getElem? fun i => ?_
  by_cases hi : i < R.length
  · rw [at_ i hi]
    by_cases c : i < R.length - g
    · rw [List.getElem?_append_left (by rw [List.length_drop, kl]; exact c), List.getElem?_drop, Nat.add_comm, at_ _ (by omega), h]
    · rw [List.getElem?_append_right (by rw [List.length_drop, kl]; omega), List.length_drop, kl, List.getElem?_take, if_pos (by omega), at_ _ (by omega), ← pl, show i - (R.length - g) + R.length = i + g by omega, h]
  · rw [List.getElem?_eq_none (by rw [List.length_append, List.length_drop, List.length_take, kl]; omega), List.getElem?_eq_none (by rw [kl]; omega)]
/-- every span is a multiple of the least one -/
theorem Rg.span (g : Rg S R) (hU : 0 < U) (h : LTurn (ringKeys U S R) m) (hn : n * ((R.length / m : Nat) : Int) = S) {D : Int} (hD : 0 < D) (p : ∀ r, Ob S R r → Ob S R (mv D r)) (p' : ∀ r, Ob S R r → Ob S R (mv (-D) r)) : ∃ c : Nat, D = n * (c : Nat) := by
  obtain ⟨j, hj, ej⟩ := g.moves hD p p'
  have hl := g.pos
  have em := En.span_turn hU g.r5 h hl hn
  have hmod := h.rot.1
  rw [keys_len] at hmod
  have pg := per_gcd j m (kap_mv (U := U) ej) (kap_mv (U := U) em)
  have gm : Nat.gcd j m ∣ m := Nat.gcd_dvd_right j m
  have gp : 0 < Nat.gcd j m := Nat.gcd_pos_of_pos_right _ h.pos
  have rt := kap_rot hl (Nat.dvd_trans gm (Nat.dvd_of_mod_eq_zero hmod)) pg
  have le := Nat.le_of_dvd h.pos gm
  have eg : Nat.gcd j m = m := by
    rcases Nat.lt_or_ge (Nat.gcd j m) m with c | c
    · exact absurd rt (h.least _ gp c)
    · omega
  have mj : m ∣ j := by
    rw [← eg]
    exact Nat.gcd_dvd_left j m
  obtain ⟨c, rfl⟩ := mj
  refine ⟨c, ?_⟩
  have e1 := En.turns em g.r5 hl 0 c
  rw [Nat.mul_comm, ej 0] at e1
  have e2 := congrArg (fun r => r.getD 0 0) e1
  have e2 : (En S R 0).getD 0 0 + D = (En S R 0).getD 0 0 + n * (c : Nat) := e2
  omega
end
theorem ring_rg {U S : Int} (hU : 0 < U) (hS : 0 < S) {L : List Row} (h5 : ∀ r ∈ L, Row5 r) (hne : ringOf U S L ≠ []) : Rg S (ringOf U S L) :=
  ⟨hS, List.length_pos_iff.mpr hne, ring_row5 hU h5, ring_in hS, srt_strict (asc_srt _) (ring_nodup hU hS h5)⟩
/-- the rounds of a tune divide every number of rounds after which it shows the same -/
theorem TuneOf.least {U z z' : Int} {L L' : List Row} (h : TuneOf U z L z' L') (hU : 0 < U) (hz : 0 < z) (h5 : ∀ r ∈ L, Row5 r) {q : Int} (hq : 0 < q) (hp : Per (Ob (z * U) L) (q * U)) : z' ∣ q := by
  have hS : 0 < z * U := Int.mul_pos hz hU
  rcases h with ⟨h1, rfl, rfl⟩ | ⟨h1, m, n, h2, h3, rfl, rfl⟩
  · exact Int.one_dvd _
  · have g := ring_rg hU hS h5 h1
    have N := ring_nf hU hS h5
    have hp2 : Per (Ob (z * U) (ringOf U (z * U) L)) (q * U) := fun t b e k => by
      rw [ring_shw hU h5, ring_shw hU h5]
      exact hp t b e k
    obtain ⟨c, hc⟩ := g.span hU h2 h3 (Int.mul_pos hq hU) (fun r o => hp2.move N o) (fun r o => hp2.neg.move N o)
    have hs := form_span (n := n) hU
    have cop := (norm_mk (n := n) (Int.ne_of_gt hU)).gcd
    have cop : Int.gcd (nt U n) (nb U n) = 1 := cop
    have e : q * nb U n = nt U n * (c : Nat) := by
      have : (q * nb U n) * U = (nt U n * (c : Nat)) * U := by
        calc (q * nb U n) * U = (q * U) * nb U n := by rw [Int.mul_assoc, Int.mul_comm (nb U n), ← Int.mul_assoc]
          _ = n * (c : Nat) * nb U n := by rw [hc]
          _ = n * nb U n * (c : Nat) := by rw [Int.mul_assoc, Int.mul_comm ((c : Nat) : Int), ← Int.mul_assoc]
          _ = nt U n * U * (c : Nat) := by rw [hs]
          _ = (nt U n * (c : Nat)) * U := by rw [Int.mul_assoc, Int.mul_comm U, ← Int.mul_assoc]
      exact Int.eq_of_mul_eq_mul_right (Int.ne_of_gt hU) this
    have dv : (nt U n).natAbs ∣ q.natAbs * (nb U n).natAbs := by
      rw [← Int.natAbs_mul, e, Int.natAbs_mul]
      exact Nat.dvd_mul_right _ _
    exact Int.natAbs_dvd_natAbs.mp (Nat.Coprime.dvd_of_dvd_mul_right (show Nat.gcd _ _ = 1 from cop) dv)
/-- after its rounds a tune shows the same -/
theorem per_self {S : Int} {L : List Row} (h5 : ∀ r ∈ L, Row5 r) (j : Int) : Per (Ob S L) (S * j) := fun t b e k => by
  constructor
  · rintro ⟨s, p, o, h1, h2⟩
    have o2 := o.shift (-j)
    rw [mv_five, Int.mul_neg] at o2
    refine ⟨s - S * j, p - S * j, ?_, by omega, by omega⟩
    rw [show b = b + S * j + -(S * j) by omega, show e = e + S * j + -(S * j) by omega]
    exact o2
  · rintro ⟨s, p, o, h1, h2⟩
    exact ⟨s + S * j, p + S * j, o.shift j, by omega, by omega⟩
/-! ### a tune as an object, with its list of marks told -/
def TuP (CT CM C : Addr) (U z : Int) (L : List Row) (pm : Addr) (v : V) (H : Hp) : Prop := ∃ (a dx : Addr) (xs : List V), v = .ref a ∧ H a = some (.ins CT dx (tF z (.ref pm))) ∧ H pm = some (.lst xs) ∧ Al (MrU CM C U) H L xs
theorem TuP.ex {CT CM pm : Addr} {U z : Int} {L : List Row} {v : V} {H H' : Hp} (h : TuP CT CM C U z L pm v H) (e : Ex H H') : TuP CT CM C U z L pm v H' := by
  obtain ⟨a, dx, xs, rfl, h1, h2, h3⟩ := h
  exact ⟨a, dx, xs, rfl, e _ _ h1, e _ _ h2, h3.map fun r v q => q.ex e⟩
theorem TuP.tu {CT CM pm : Addr} {U z : Int} {L : List Row} {v : V} {H : Hp} (h : TuP CT CM C U z L pm v H) : TuA CT CM C U z L v H := by
  obtain ⟨a, dx, xs, rfl, h1, h2, h3⟩ := h
  exact ⟨a, dx, pm, xs, rfl, h1, h2, h3⟩
theorem TuP.put {CT CM pm q : Addr} {U z : Int} {L : List Row} {v : V} {H : Hp} {ys zs : List V} (h : TuP CT CM C U z L pm v H) (hq : H q = some (.lst ys)) (ne : pm ≠ q) : TuP CT CM C U z L pm v (upd H q (.lst zs)) := by
  obtain ⟨a, dx, xs, rfl, h1, h2, h3⟩ := h
  have s := St.lst (o := .lst zs) hq
  have na : a ≠ q := fun w => by rw [w, hq] at h1; cases h1
  exact ⟨a, dx, xs, rfl, by rw [upd_ne na]; exact h1, by rw [upd_ne ne]; exact h2, h3.map fun r v h => h.st s⟩
theorem tune_rdP {CT CM CR : Addr} {d : Nat} {z : Int} {a : Addr} {H0 : Hp} {Q : VK} {E : XK} {U : Int} {L : List Row} {xs : List V} (hz : 1 ≤ z) (hU : Un U) (ha : H0 a = some (.lst xs)) (hx : Al (MrU CM C U) H0 L xs) (h5 : ∀ r ∈ L, Row5 r) (hsm : ∀ r ∈ L, SmR 380 r) (hlen : L.length ≤ 2 ^ d) (sS : Sm 380 (z * U)) (sz : Sm 380 z)
    {x dx : Addr} (f1 : H0 x = none) (f2 : H0 dx = none) (f3 : dx ≠ x)
    (k : ∀ (z' : Int) (L' : List Row) (pm : Addr) (H' : Hp), TuneOf U z L z' L' → Ex H0 H' → H0 pm = none → TuP CT CM C U z' L' pm (.ref x) H' → Q .non H') :
    spTu CT CM C CR d [.ref x, .int z, .ref a] (upd (upd H0 dx (.own x)) x (.ins CT dx [])) Q E := by
  have e0 : Ex H0 (upd (upd H0 dx (.own x)) x (.ins CT dx [])) := fun q o h => by
    rw [upd_ne (ne_of_none h f1), upd_ne (ne_of_none h f2)]
    exact h
  refine ⟨x, a, dx, z, rfl, upd_same, fun h => absurd h (by omega), fun _ => ⟨U, L, xs, hU, e0 _ _ ha, hx.map fun r v h => h.ex e0, h5, hsm, hlen, sS, sz, fun hr pm H' kp np hp hm => ?_, fun hr m n pm zs H' hm hn kp np hp hpm hz => ?_⟩⟩
  · exact k 1 [] pm H' (.inl ⟨hr, rfl, rfl⟩) (fun q o h => kp q o (e0 _ _ h) (ne_of_none h f1)) (none_back e0 np) ⟨x, dx, [], rfl, hp, hm, .nil⟩
  · exact k _ _ pm H' (.inr ⟨hr, m, n, hm, hn, rfl, rfl⟩) (fun q o h => kp q o (e0 _ _ h) (ne_of_none h f1)) (none_back e0 np) ⟨x, dx, zs, rfl, hp, hpm, hz⟩
/-! ### a fill, later -/
def shr (x : Int) (r : List Int) : List Int := [r.getD 0 0, r.getD 1 0 + x, r.getD 2 0 + x, r.getD 3 0 + x, r.getD 4 0 + x]
abbrev sLl : Stmt := top 119
theorem scLl : FnScope ["_law_fill_here", "_law_by", "_law_tone", "_law_b", "_law_e", "_law_low", "_law_high"] ["_law_fill_here", "_law_by"] (defScope sLl) := ⟨rfl, rfl, rfl, by decide +kernel, rfl, by decide +kernel, by decide +kernel⟩
def spLl : Sp := fun vs H Q _ => ∃ (v : V) (z x : Int) (L : List (List Int)), vs = [v, .int x] ∧ FiR z L v H ∧ (∀ r ∈ L, ∃ n, LRowK n r) ∧ L.length ≤ 1000 ∧ ∀ (v' : V) (H' : Hp), Ex H H' → FiR z (L.map (shr x)) v' H' → Q v' H'
theorem ok_llater {f : Addr} {fd : FuncData} (F : Fun K "_law_later" "_law_later" sLl f fd) : FnOk P w K mg base CX0 1 f fd ["_law_fill_here", "_law_by"] spLl := by
  refine F.ok scLl (fun vs H Q E h => ?_) (fun cdv A outer s H vs Q E hr h => ?_)
  · obtain ⟨v, z, x, L, rfl, _⟩ := h
    rfl
  · obtain ⟨v, z, x, L, rfl, ⟨p, a, vs, rfl, hp, ha, hA⟩, hL, hlen, k⟩ := h
    have lA := hA.len
    refine ⟨_, (pss_one (ps_ret (pe_tup (pa_cons (pe_ix ix_tup (pv 0) pe_int (fun _ _ => rfl)) (pa_cons (pe_lc (own := [("_law_tone", 2), ("_law_b", 3), ("_law_e", 4), ("_law_low", 5), ("_law_high", 6)]) rfl scLl.nd (pi_list (pe_ix ix_tup (pv 0) pe_int (fun _ _ => rfl))) (blkOk_by (N := ["_law_fill_here", "_law_by", "_law_tone", "_law_b", "_law_e", "_law_low", "_law_high"]) (sc := defScope sLl) (by decide +kernel)) (fun _ _ _ _ _ => (show PG _ _ (gTup K 5 _) from pg_tup rfl (pgs_cons (pg_name (i := 2) scLl.nd rfl (Or.inl rfl)) (pgs_cons (pg_name (i := 3) scLl.nd rfl (Or.inl rfl)) (pgs_cons (pg_name (i := 4) scLl.nd rfl (Or.inl rfl)) (pgs_cons (pg_name (i := 5) scLl.nd rfl (Or.inl rfl)) (pgs_cons (pg_name (i := 6) scLl.nd rfl (Or.inl rfl)) pgs_nil))))))) (fun _ _ _ _ _ => pts_nil) (fun _ _ _ _ _ => (pe_tup (pa_cons (pv 2) (pa_cons (pe_op op_add (pv 3) (pv 1)) (pa_cons (pe_op op_add (pv 4) (pv 1)) (pa_cons (pe_op op_add (pv 5) (pv 1)) (pa_cons (pe_op op_add (pv 6) (pv 1)) pa_nil)))))))) pa_nil))))), ?_⟩
    refine ⟨_, rfl, p, _, _, _, rfl, rfl, SqT.of hp, at0, _, rfl, p, _, _, _, rfl, rfl, SqT.of hp, at1, a, rfl, ⟨_, SqL.of ha⟩, fun D hD => lc_list (xs := vs) (fun i H' => Ex H H' ∧ ∃ zs, H' D = some (.lst zs) ∧ Al TuI H' ((L.take i).map (shr x)) zs) ⟨Ex.new hD, [], upd_same, .nil⟩ (fun i H' _ ⟨e, _⟩ => SqL.of (e _ _ ha)) ?_ ?_⟩
    · rintro i y H1 hi ⟨e1, zs, hz, hZ⟩
      obtain ⟨r, hr1, hr2⟩ := hA.getV hi
      have tk : L.take (i + 1) = L.take i ++ [r] := by
        rw [List.take_succ, hr1]
        rfl
      obtain ⟨n, k0, b0, e0, lo, hi0, rfl, _⟩ := hL r (List.mem_of_getElem? hr1)
      obtain ⟨q, rfl, hq⟩ := hr2.ex e1
      have lz := hZ.len
      rw [List.length_map, List.length_take] at lz
      refine ⟨q, _, rfl, SqT.of hq, rfl, _, _, rfl, _, _, rfl, _, _, rfl, _, _, rfl, _, _, rfl, rfl, ?_⟩
      simp only [wipe, L2.start, List.map_cons, List.map_nil, List.length_cons, List.length_nil, Nat.reduceAdd, Nat.reduceSub, List.replicate_succ, List.replicate_zero, List.cons_append, List.nil_append, List.set_cons_zero, List.set_cons_succ]
      refine ⟨trivial, _, rfl, ?_⟩
      refine ⟨_, rfl, _, rfl, _, _, rfl, rfl, ?_⟩
      refine ⟨_, rfl, _, rfl, _, _, rfl, rfl, ?_⟩
      refine ⟨_, rfl, _, rfl, _, _, rfl, rfl, ?_⟩
      refine ⟨_, rfl, _, rfl, _, _, rfl, rfl, ?_⟩
      refine ⟨by show 5 ≤ sizeLine; decide, fun p2 np => ?_⟩
      have ep : Ex H1 (upd H1 p2 (.tup ((shr x [k0, b0, e0, lo, hi0]).map V.int))) := Ex.new np
      have hz2 := ep _ _ hz
      have s2 := St.lst (o := .lst (zs ++ [V.ref p2])) hz2
      refine ⟨zs, hz2, line_lt (by omega), Evl.Ex.mut (e1.trans ep) hD, zs ++ [V.ref p2], upd_same, ?_⟩
      rw [tk, List.map_append]
      exact (alI_st (alI_ex hZ ep) s2).snoc (TuI.st s2 ⟨p2, rfl, upd_same⟩)
    · rintro H1 ⟨e1, zs, hz, hZ⟩
      rw [lA, List.take_length] at hZ
      refine ⟨by show 2 ≤ sizeLine; decide, fun p2 np => ?_⟩
      have ep : Ex H1 (upd H1 p2 (.tup [.int z, .ref D])) := Ex.new np
      exact k _ _ (e1.trans ep) ⟨p2, D, zs, rfl, upd_same, ep _ _ hz, alI_ex hZ ep⟩
/-! ### the ends of parts in a common period -/
def edR (S : Int) (n : Nat) (e : Int) : List Int := (List.range n).map fun i : Nat => e % S + (i : Int) * S
theorem edR_len {S : Int} {n : Nat} {e : Int} : (edR S n e).length = n := by
  unfold edR
  rw [List.length_map, List.length_range]
theorem edR_succ {S : Int} {t : Nat} {e : Int} : edR S (t + 1) e = edR S t e ++ [e % S + (t : Int) * S] := by
  unfold edR
  rw [List.range_succ, List.map_append]
  rfl
theorem edsR_len {S : Int} {n : Nat} : ∀ L : List Int, (L.flatMap (edR S n)).length = n * L.length
  | [] => rfl
  | e :: L => by
    rw [List.flatMap_cons, List.length_append, edR_len, edsR_len L, List.length_cons, Nat.mul_succ]
    omega
def cutR (S : Int) (n : Nat) (r : List Int) : List Int := [r.getD 3 0, r.getD 4 0].flatMap (edR S n)
def cutsOf (S : Int) (n : Nat) (L : List (List Int)) : List Int := 0 :: L.flatMap (cutR S n)
theorem cutR_len {S : Int} {n : Nat} {r : List Int} : (cutR S n r).length = 2 * n := by
  unfold cutR
  rw [edsR_len]
  show n * 2 = _
  omega
theorem cuts_len {S : Int} {n : Nat} : ∀ L : List (List Int), (L.flatMap (cutR S n)).length = 2 * n * L.length
  | [] => rfl
  | r :: L => by
    rw [List.flatMap_cons, List.length_append, cutR_len, cuts_len L, List.length_cons, Nat.mul_succ]
    omega
abbrev sCu : Stmt := top 117
theorem scCu : FnScope ["_law_fill_here", "_law_count", "_law_unit_here", "_law_span", "_law_out", "_law_one_here", "_law_edge", "_law_turn"] ["_law_fill_here", "_law_count", "_law_unit_here"] (defScope sCu) := ⟨rfl, rfl, rfl, by decide +kernel, rfl, by decide +kernel, by decide +kernel⟩
def spCu : Sp := fun vs H Q _ => ∃ (U z m : Int) (n : Nat) (L : List (List Int)) (v : V), vs = [v, .int m, .int U] ∧ FiR z L v H ∧ (∀ r ∈ L, LRow r) ∧ 1 ≤ z ∧ z ≤ 1000 ∧ 0 < U ∧ Sm 60 U ∧ m = z * (n : Int) ∧ n ≤ 1000 ∧ L.length ≤ 9 ∧
  ∀ (p : Addr) (H' : Hp), Ex H H' → H' p = some (.lst ((cutsOf (z * U) n L).map V.int)) → Q (.ref p) H'
theorem ok_cuts {f : Addr} {fd : FuncData} (F : Fun K "_law_cuts" "_law_cuts" sCu f fd) (T : Txt K mg C) : FnOk P w K mg base CX0 1 f fd ["_law_fill_here", "_law_count", "_law_unit_here"] spCu := by
  refine F.ok scCu (fun vs H Q E h => ?_) (fun cdv A outer s H vs Q E hr h => ?_)
  · obtain ⟨U, z, m, n, L, v, rfl, _⟩ := h
    rfl
  · obtain ⟨U, z, m, n, L, v, rfl, ⟨p, a, vs, rfl, hp, ha, hA⟩, hL, z1, z2, hU, sU, hm, hn, l9, k⟩ := h
    have lA := hA.len
    have sz : Sm 10 z := by unfold Sm; omega
    have hS : 0 < z * U := Int.mul_pos (by omega) hU
    have sS : Sm 70 (z * U) := sz.mul sU
    have en : (m.fdiv z).toNat = n := by
      rw [hm, Int.fdiv_eq_ediv_of_nonneg _ (by omega), Int.mul_ediv_cancel_left _ (by omega)]
      exact Int.toNat_natCast n
    have en2 : m.fdiv z = (n : Int) := by
      rw [hm, Int.fdiv_eq_ediv_of_nonneg _ (by omega), Int.mul_ediv_cancel_left _ (by omega)]
    refine ⟨_, (pss_cons (ps_set (i := 3) scCu.nd rfl (Or.inl rfl) (pe_op op_mulW (pe_ix ix_tup (pv 0) pe_int (fun _ _ => rfl)) (pv 2)))
 (pss_cons (ps_set (i := 4) scCu.nd rfl (Or.inl rfl) (pe_lst (pa_cons pe_int pa_nil)))
 (pss_cons (ps_for PassesOwn.never rfl (pi_list (pe_ix ix_tup (pv 0) pe_int (fun _ _ => rfl))) (pg_name (i := 5) scCu.nd rfl (Or.inl rfl)) (pss_one (ps_for PassesOwn.never rfl (pi_list (pe_lst (pa_cons (pe_ix ix_tup (pv 5) pe_int (fun _ _ => rfl)) (pa_cons (pe_ix ix_tup (pv 5) pe_int (fun _ _ => rfl)) pa_nil)))) (pg_name (i := 6) scCu.nd rfl (Or.inl rfl)) (pss_one (ps_for PassesOwn.never rfl (pi_range1 rfl T.range (pa_cons (pe_op op_fdivNW (pv 1) (pe_ix ix_tup (pv 0) pe_int (fun _ _ => rfl))) pa_nil)) (pg_name (i := 7) scCu.nd rfl (Or.inl rfl)) (pss_one (ps_expr (pe_bm PySem.F.plainAttrs_list PySem.F.slot_list_append PySem.F.type_list_append mt_append (pv 4) (pa_cons (pe_op op_add (pe_op op_sub (pv 6) (pe_op op_mulW (pe_op op_fdivNW (pv 6) (pv 3)) (pv 3))) (pe_op op_mulW (pv 7) (pv 3))) pa_nil)))))))))
 (pss_one (ps_ret (pv 4)))))), ?_⟩
    refine ⟨_, rfl, p, _, _, _, rfl, rfl, SqT.of hp, at0, _, rfl, _, _, rfl, rfl, Sm.cmul (k := 10) (j := 60) sz sU, ?_⟩
    refine ⟨by show 1 ≤ sizeLine; decide, fun o ho => ?_⟩
    have eo : Ex H (upd H o (.lst [.int 0])) := Ex.new ho
    have hp0 := eo _ _ hp
    have ha0 := eo _ _ ha
    refine ⟨_, rfl, p, _, _, _, rfl, rfl, SqT.of hp0, at1, a, rfl, ⟨_, SqL.of ha0⟩, for_list (K := K) (a := a) (xs := vs) (fun i σ H' => ∃ v5 v6 v7, σ = [some (.ref p), some (.int m), some (.int U), some (.int (z * U)), some (.ref o), v5, v6, v7] ∧ Ex H H' ∧ H' o = some (.lst ((0 :: (L.take i).flatMap (cutR (z * U) n)).map V.int)))
      ⟨none, none, none, rfl, eo, upd_same⟩ (fun i σ H' _ ⟨_, _, _, _, e, _⟩ => SqL.of (e _ _ ha)) ?_ ?_⟩
    · rintro i x σ H1 hi ⟨v5, v6, v7, rfl, e1, hz⟩
      obtain ⟨r, hr1, hr2⟩ := hA.getV hi
      have hi9 : i < 9 := by
        have := (List.getElem?_eq_some_iff.mp hr1).1
        omega
      have tk : (L.take (i + 1)).flatMap (cutR (z * U) n) = (L.take i).flatMap (cutR (z * U) n) ++ cutR (z * U) n r := flat_at _ hr1
      have lb := cuts_len (S := z * U) (n := n) (L.take i)
      have lb : ((L.take i).flatMap (cutR (z * U) n)).length ≤ 2000 * 9 := by
        rw [lb, List.length_take]
        refine Nat.le_trans (Nat.mul_le_mul (show 2 * n ≤ 2000 by omega) (show min i L.length ≤ 9 by omega)) (Nat.le_refl _)
      generalize (L.take i).flatMap (cutR (z * U) n) = Bs at *
      obtain ⟨k0, b0, e0, lo, hi0, rfl, o1, o2, o3, sk, sb, se⟩ := hL r (List.mem_of_getElem? hr1)
      have slo : Sm 200 lo := sm_mid o1 (by omega) sb se
      have shi : Sm 200 hi0 := sm_mid (by omega) o3 sb se
      obtain ⟨q, rfl, hq⟩ := hr2.ex e1
      refine ⟨_, rfl, q, _, _, _, rfl, rfl, SqT.of hq, atI_nat (j := 3) rfl, _, rfl, q, _, _, _, rfl, rfl, SqT.of hq, atI_nat (j := 4) rfl, by show 2 ≤ sizeLine; decide, fun l hl => ?_⟩
      have ol : o ≠ l := ne_of_none hz hl
      have el : Ex H1 (upd H1 l (.lst [.int lo, .int hi0])) := Ex.new hl
      refine ⟨l, rfl, ⟨_, SqL.of upd_same⟩, for_list (K := K) (a := l) (xs := [V.int lo, V.int hi0]) (fun j σ H' => ∃ v6 v7, σ = [some (.ref p), some (.int m), some (.int U), some (.int (z * U)), some (.ref o), some (.ref q), v6, v7] ∧ Ex H H' ∧ H' l = some (.lst [.int lo, .int hi0]) ∧ H' o = some (.lst ((0 :: (Bs ++ ([lo, hi0].take j).flatMap (edR (z * U) n))).map V.int)))
        ⟨v6, v7, rfl, e1.trans el, upd_same, by
          rw [List.take_zero, List.flatMap_nil, List.append_nil]
          exact el _ _ hz⟩ (fun j σ H' _ ⟨_, _, _, _, e, _⟩ => SqL.of e) ?_ ?_⟩
      · rintro j y σ H2 hj ⟨v6, v7, rfl, e2, hl2, hz2⟩
        obtain ⟨ed, he, rfl⟩ : ∃ e, [lo, hi0][j]? = some e ∧ y = V.int e := by
          match j, hj with
          | 0, hj => exact ⟨lo, rfl, (Option.some.inj hj).symm⟩
          | 1, hj => exact ⟨hi0, rfl, (Option.some.inj hj).symm⟩
        have j2 : j < 2 := (List.getElem?_eq_some_iff.mp he).1
        have sed : Sm 200 ed := by
          rcases List.mem_cons.mp (List.mem_of_getElem? he) with rfl | h
          · exact slo
          · rw [List.mem_singleton.mp h]
            exact shi
        have tj : ([lo, hi0].take (j + 1)).flatMap (edR (z * U) n) = ([lo, hi0].take j).flatMap (edR (z * U) n) ++ edR (z * U) n ed := flat_at (edR (z * U) n) he
        have lj : (([lo, hi0].take j).flatMap (edR (z * U) n)).length ≤ 2000 := by
          rw [edsR_len, List.length_take]
          refine Nat.le_trans (Nat.mul_le_mul hn (show min j [lo, hi0].length ≤ 2 from Nat.min_le_right _ _)) (Nat.le_refl _)
        generalize ([lo, hi0].take j).flatMap (edR (z * U) n) = Cs at *
        have em : ed - ed.fdiv (z * U) * (z * U) = ed % (z * U) := by
          rw [Int.fdiv_eq_ediv_of_nonneg _ (Int.le_of_lt hS), Int.emod_def, Int.mul_comm]
        have sq : Sm 200 (ed.fdiv (z * U)) := sed.le (by
          rw [Int.fdiv_eq_ediv_of_nonneg _ (Int.le_of_lt hS)]
          exact Int.natAbs_ediv_le_natAbs _ _)
        refine ⟨_, rfl, _, rfl, p, _, _, _, rfl, rfl, SqT.of (e2 _ _ hp), at0, _, _, rfl, rfl, (sz.mono (show 10 ≤ 390 by decide)).cdiv (by omega), _, rfl, by omega, by omega, for_range (lo := 0) (n := (m.fdiv z).toNat) (fun t σ H' => ∃ v7, σ = [some (.ref p), some (.int m), some (.int U), some (.int (z * U)), some (.ref o), some (.ref q), some (.int ed), v7] ∧ Ex H H' ∧ H' l = some (.lst [.int lo, .int hi0]) ∧ H' o = some (.lst ((0 :: (Bs ++ (Cs ++ edR (z * U) t ed))).map V.int)))
          ⟨v7, rfl, e2, hl2, by
            rw [show edR (z * U) 0 ed = [] from rfl, List.append_nil]
            exact hz2⟩ ?_ ?_⟩
        · rintro t σ H3 ht ⟨v7, rfl, e3, hl3, hz3⟩
          rw [en] at ht
          have st : Sm 20 (0 + (t : Int)) := by unfold Sm; omega
          refine ⟨_, rfl, .inl ⟨rfl, _, SqL.of hz3⟩, _, rfl, _, rfl, _, rfl, _, _, rfl, rfl, (sS.mono (show 70 ≤ 390 by decide)).cdiv (Int.ne_of_gt hS), _, rfl, _, _, rfl, rfl, Sm.cmul (k := 200) (j := 70) sq sS, _, _, rfl, rfl, _, rfl, _, rfl, _, _, rfl, rfl, Sm.cmul (k := 20) (j := 70) st sS, _, _, rfl, rfl, o, _, _, rfl, rfl, hz3, line_lt ?_, ?_⟩
          · rw [List.length_map, List.length_cons, List.length_append, List.length_append, edR_len]
            omega
          · refine ⟨_, rfl, Evl.Ex.mut e3 ho, by rw [upd_ne ol.symm]; exact hl3, ?_⟩
            have e5 : (0 :: (Bs ++ (Cs ++ edR (z * U) (t + 1) ed))).map V.int = (0 :: (Bs ++ (Cs ++ edR (z * U) t ed))).map V.int ++ [V.int (ed % (z * U) + (t : Int) * (z * U))] := by
              rw [edR_succ, ← List.append_assoc Cs, ← List.append_assoc Bs, ← List.cons_append, List.map_append]
              rfl
            rw [upd_same, em, Int.zero_add]
            exact congrArg (fun l => some (HO.lst l)) e5.symm
        · rintro σ H3 ⟨v7, rfl, e3, hl3, hz3⟩
          rw [en] at hz3
          refine ⟨_, _, rfl, e3, hl3, ?_⟩
          rw [tj]
          exact hz3
      · rintro σ H2 ⟨v6, v7, rfl, e2, hl2, hz2⟩
        refine ⟨_, _, _, rfl, e2, ?_⟩
        rw [tk]
        exact hz2
    · rintro σ H1 ⟨v5, v6, v7, rfl, e1, hz⟩
      rw [lA, List.take_length] at hz
      exact ⟨_, rfl, k o H1 e1 hz⟩
/-- a copy of an end lies among them -/
theorem cut_in {S : Int} {n : Nat} (hS : 0 < S) {L : List (List Int)} {r : List Int} (hr : r ∈ L) {e j y : Int} (he : e = r.getD 3 0 ∨ e = r.getD 4 0) (hy : y = e + S * j) (h0 : 0 ≤ y) (h1 : y < S * (n : Int)) : y ∈ cutsOf S n L := by
  refine List.mem_cons_of_mem _ (List.mem_flatMap.mpr ⟨r, hr, ?_⟩)
  unfold cutR
  refine List.mem_flatMap.mpr ⟨e, by rcases he with rfl | rfl <;> simp, ?_⟩
  unfold edR
  have d := Int.emod_add_mul_ediv e S
  have m0 := Int.emod_nonneg e (Int.ne_of_gt hS)
  have m1 := Int.emod_lt_of_pos e hS
  generalize e / S = Dv at *
  generalize e % S = M at *
  have ey : y = M + S * (Dv + j) := by rw [Int.mul_add]; omega
  have i0 : 0 ≤ Dv + j := by
    refine Int.not_lt.mp fun c => ?_
    have := Int.mul_le_mul_of_nonneg_left (show Dv + j ≤ -1 by omega) (Int.le_of_lt hS)
    omega
  have i1 : Dv + j < n := by
    refine Int.not_le.mp fun c => ?_
    have := Int.mul_le_mul_of_nonneg_left c (Int.le_of_lt hS)
    omega
  refine List.mem_map.mpr ⟨(Dv + j).toNat, List.mem_range.mpr (by omega), ?_⟩
  rw [ey, Int.mul_comm S, Int.toNat_of_nonneg i0]
theorem max_cut {t : Int} : ∀ {Cs : List Int}, (∃ y ∈ Cs, y ≤ t) → ∃ x ∈ Cs, x ≤ t ∧ ∀ y ∈ Cs, y ≤ t → y ≤ x
  | [], h => by
    obtain ⟨y, hy, _⟩ := h
    cases hy
  | c :: Cs, h => by
    by_cases w : ∃ y ∈ Cs, y ≤ t
    · obtain ⟨x, hx, h1, h2⟩ := max_cut w
      by_cases v : c ≤ t ∧ x < c
      · refine ⟨c, List.mem_cons_self, v.1, fun y hy hyt => ?_⟩
        rcases List.mem_cons.mp hy with rfl | hy
        · exact Int.le_refl _
        · have := h2 y hy hyt
          omega
      · refine ⟨x, List.mem_cons_of_mem _ hx, h1, fun y hy hyt => ?_⟩
        rcases List.mem_cons.mp hy with rfl | hy
        · omega
        · exact h2 y hy hyt
    · obtain ⟨y, hy, hyt⟩ := h
      rcases List.mem_cons.mp hy with rfl | hy
      · refine ⟨y, List.mem_cons_self, hyt, fun z hz hzt => ?_⟩
        rcases List.mem_cons.mp hz with rfl | hz
        · exact Int.le_refl _
        · exact absurd ⟨z, hz, hzt⟩ w
      · exact absurd ⟨y, hy, hyt⟩ w
/-- from the last end on, what is shown stays -/
theorem cut_stay {S T : Int} {n : Nat} {L : List (List Int)} {N : Nat} (hS : 0 < S) (hT : T = S * (n : Int)) (hL : ∀ r ∈ L, LRowK N r) {t x : Int} (x0 : 0 ≤ x) (xt : x ≤ t) (tT : t < T) (hm : ∀ y ∈ cutsOf S n L, y ≤ t → y ≤ x) (b e k : Int) : Shw (Ob S (L.map lrow)) t b e k ↔ Shw (Ob S (L.map lrow)) x b e k := by
  have ends : ∀ s p b e k, Ob S (L.map lrow) [s, p, b, e, k] → ∃ r ∈ L, ∃ j : Int, s = r.getD 3 0 + S * j ∧ p = r.getD 4 0 + S * j := by
    rintro s p b e k ⟨q, hq, j, er⟩
    obtain ⟨r, hr, rfl⟩ := List.mem_map.mp hq
    obtain ⟨k0, b0, e0, lo, hi, rfl, _⟩ := hL r hr
    have er : [s, p, b, e, k] = [lo + S * j, hi + S * j, b0 + S * j, e0 + S * j, k0] := er
    injection er with z1 er
    injection er with z2 _
    exact ⟨_, hr, j, z1, z2⟩
  constructor
  · rintro ⟨s, p, o, h1, h2⟩
    obtain ⟨r, hr, j, e1, _⟩ := ends _ _ _ _ _ o
    refine ⟨s, p, o, Int.not_lt.mp fun c => ?_, by omega⟩
    have := hm s (cut_in hS hr (.inl rfl) e1 (by omega) (by omega)) h1
    omega
  · rintro ⟨s, p, o, h1, h2⟩
    obtain ⟨r, hr, j, _, e1⟩ := ends _ _ _ _ _ o
    refine ⟨s, p, o, by omega, Int.not_le.mp fun c => ?_⟩
    have := hm p (cut_in hS hr (.inr rfl) e1 (by omega) (by omega)) c
    omega
theorem lrow5 {N : Nat} {L : List (List Int)} (hL : ∀ r ∈ L, LRowK N r) : ∀ r ∈ L.map lrow, Row5 r := fun r hr => by
  obtain ⟨w, hw, rfl⟩ := List.mem_map.mp hr
  exact (hL w hw).row
/-- two descriptions that say the same at all ends say the same at all times -/
theorem cut_same {S1 S2 T : Int} {n1 n2 N : Nat} {L1 L2 : List (List Int)} (h1 : 0 < S1) (h2 : 0 < S2) (t1 : T = S1 * (n1 : Int)) (t2 : T = S2 * (n2 : Int)) (hT : 0 < T) (hL1 : ∀ r ∈ L1, LRowK N r) (hL2 : ∀ r ∈ L2, LRowK N r)
    (h : ∀ x ∈ cutsOf S1 n1 L1 ++ cutsOf S2 n2 L2, ∀ b e k : Int, Shw (Ob S1 (L1.map lrow)) x b e k ↔ Shw (Ob S2 (L2.map lrow)) x b e k) (t b e k : Int) : Shw (Ob S1 (L1.map lrow)) t b e k ↔ Shw (Ob S2 (L2.map lrow)) t b e k := by
  have core : ∀ t b e k : Int, 0 ≤ t → t < T → (Shw (Ob S1 (L1.map lrow)) t b e k ↔ Shw (Ob S2 (L2.map lrow)) t b e k) := fun t b e k a0 a1 => by
    obtain ⟨x, hx, xt, hm⟩ := max_cut (t := t) (Cs := cutsOf S1 n1 L1 ++ cutsOf S2 n2 L2) ⟨0, List.mem_append_left _ List.mem_cons_self, a0⟩
    have x0 : 0 ≤ x := hm 0 (List.mem_append_left _ List.mem_cons_self) a0
    rw [cut_stay h1 t1 hL1 x0 xt a1 (fun y hy => hm y (List.mem_append_left _ hy)), cut_stay h2 t2 hL2 x0 xt a1 (fun y hy => hm y (List.mem_append_right _ hy))]
    exact h x hx b e k
  have d := Int.emod_add_mul_ediv t T
  have m0 := Int.emod_nonneg t (Int.ne_of_gt hT)
  have m1 := Int.emod_lt_of_pos t hT
  generalize t / T = j at *
  generalize t % T = u at *
  have p1 := per_self (S := S1) (lrow5 hL1) ((n1 : Int) * j) u (b - T * j) (e - T * j) k
  have p2 := per_self (S := S2) (lrow5 hL2) ((n2 : Int) * j) u (b - T * j) (e - T * j) k
  rw [← Int.mul_assoc, ← t1, Int.sub_add_cancel, Int.sub_add_cancel, d] at p1
  rw [← Int.mul_assoc, ← t2, Int.sub_add_cancel, Int.sub_add_cancel, d] at p2
  rw [p1, p2]
  exact core u _ _ k m0 m1
/-! ### whether two descriptions say the same -/
/-- a description as the law's tests want it -/
structure Dsc (U m z : Int) (L : List (List Int)) : Prop where
  row : ∀ r ∈ L, LRow r
  near : ∀ r ∈ L, Near U m r
  z1 : 1 ≤ z
  z2 : z ≤ 30
  len : L.length ≤ 9
theorem Dsc.mono {U m m' z : Int} {L : List (List Int)} (h : Dsc U m z L) (hU : 0 ≤ U) (hm : m ≤ m') : Dsc U m' z L := ⟨h.row, fun r hr => (h.near r hr).mono hU hm, h.z1, h.z2, h.len⟩
theorem lcm_facts {z1 z2 : Int} (h1 : 1 ≤ z1) (h2 : 1 ≤ z2) (g1 : z1 ≤ 30) (g2 : z2 ≤ 30) : ∃ a b : Nat, 1 ≤ a ∧ 1 ≤ b ∧ a ≤ 30 ∧ b ≤ 30 ∧ z1.fdiv ((Int.gcd z1 z2 : Nat) : Int) = (a : Int) ∧ (a : Int) * z2 = z1 * (b : Int) ∧ (a : Int) * z2 = z2 * (a : Int) := by
  have gp : 0 < Int.gcd z1 z2 := Int.gcd_pos_of_ne_zero_left _ (by omega)
  obtain ⟨x, hx⟩ : ((Int.gcd z1 z2 : Nat) : Int) ∣ z1 := Int.gcd_dvd_left ..
  obtain ⟨y, hy⟩ : ((Int.gcd z1 z2 : Nat) : Int) ∣ z2 := Int.gcd_dvd_right ..
  generalize hG : ((Int.gcd z1 z2 : Nat) : Int) = G at *
  have G0 : 0 < G := by omega
  have x0 : 0 < x := Int.pos_of_mul_pos_right (a := G) (by omega) G0
  have y0 : 0 < y := Int.pos_of_mul_pos_right (a := G) (by omega) G0
  have xl : x ≤ z1 := by
    have := Int.mul_le_mul_of_nonneg_right (show 1 ≤ G by omega) (Int.le_of_lt x0)
    omega
  have yl : y ≤ z2 := by
    have := Int.mul_le_mul_of_nonneg_right (show 1 ≤ G by omega) (Int.le_of_lt y0)
    omega
  refine ⟨x.toNat, y.toNat, by omega, by omega, by omega, by omega, ?_, ?_, Int.mul_comm _ _⟩
  · rw [Int.fdiv_eq_ediv_of_nonneg _ (by omega), Int.toNat_of_nonneg (by omega)]
    conv => lhs; rw [hx]
    exact Int.mul_ediv_cancel_left _ (by omega)
  · rw [Int.toNat_of_nonneg (by omega), Int.toNat_of_nonneg (by omega)]
    conv => lhs; rw [hy]
    conv => rhs; rw [hx]
    rw [← Int.mul_assoc, Int.mul_comm x G]
abbrev sAk : Stmt := top 118
theorem scAk : FnScope ["_law_one_here", "_law_two", "_law_unit_here", "_law_count", "_law_cut"] ["_law_one_here", "_law_two", "_law_unit_here"] (defScope sAk) := ⟨rfl, rfl, rfl, by decide +kernel, rfl, by decide +kernel, by decide +kernel⟩
def spAk : Sp := fun vs H Q _ => ∃ (U z1 z2 : Int) (L1 L2 : List (List Int)) (x y : V), vs = [x, y, .int U] ∧ FiR z1 L1 x H ∧ FiR z2 L2 y H ∧ Dsc U 1100 z1 L1 ∧ Dsc U 1100 z2 L2 ∧ 0 < U ∧ Sm 60 U ∧
  ∀ (c : Bool) (H' : Hp), Ex H H' → (c = true ↔ ∀ t b e k : Int, Shw (Ob (z1 * U) (L1.map lrow)) t b e k ↔ Shw (Ob (z2 * U) (L2.map lrow)) t b e k) → Q (.bl c) H'
theorem cuts_in {U z : Int} {n : Nat} {L : List (List Int)} (hU : 0 < U) (h1 : 1 ≤ z) (h2 : z ≤ 30) (hn : n ≤ 30) {x : Int} (hx : x ∈ cutsOf (z * U) n L) : 0 ≤ x ∧ x ≤ 1000 * U := by
  have hS : 0 < z * U := Int.mul_pos (by omega) hU
  have h30 : z * U ≤ 30 * U := Int.mul_le_mul_of_nonneg_right h2 (Int.le_of_lt hU)
  rcases List.mem_cons.mp hx with rfl | hx
  · omega
  · obtain ⟨r, _, hx⟩ := List.mem_flatMap.mp hx
    obtain ⟨e, _, hx⟩ := List.mem_flatMap.mp hx
    unfold edR at hx
    obtain ⟨i, hi, rfl⟩ := List.mem_map.mp hx
    have hi := List.mem_range.mp hi
    have m0 := Int.emod_nonneg e (Int.ne_of_gt hS)
    have m1 := Int.emod_lt_of_pos e hS
    have a1 := Int.mul_nonneg (show (0 : Int) ≤ i by omega) (Int.le_of_lt hS)
    have a2 := Int.mul_le_mul_of_nonneg_right (show (i : Int) ≤ 29 by omega) (Int.le_of_lt hS)
    omega
theorem ok_alike {f : Addr} {fd : FuncData} (F : Fun K "_law_alike" "_law_alike" sAk f fd) (T : Txt K mg C) (OG : Ok P w K mg base CX0 1 "_law_gcd" ["_law_a", "_law_b"] spGcd) (OC : Ok P w K mg base CX0 1 "_law_cuts" ["_law_fill_here", "_law_count", "_law_unit_here"] spCu) (OS : Ok P w K mg base CX0 1 "_law_same" ["_law_left", "_law_right"] spSm) (OT : Ok P w K mg base CX0 3 "_law_tune_set" ["_law_fill_here", "_law_t", "_law_side", "_law_unit_here"] spTs) : FnOk P w K mg base CX0 4 f fd ["_law_one_here", "_law_two", "_law_unit_here"] spAk := by
  obtain ⟨fGc, fdGc, GGc, mGc, kGc, bGc⟩ := OG
  obtain ⟨fCu, fdCu, GCu, mCu, kCu, bCu⟩ := OC
  obtain ⟨fSm, fdSm, GSm, mSm, kSm, bSm⟩ := OS
  obtain ⟨fTs, fdTs, GTs, mTs, kTs, bTs⟩ := OT
  refine F.ok scAk (fun vs H Q E h => ?_) (fun cdv A outer s H vs Q E hr h => ?_)
  · obtain ⟨U, z1, z2, L1, L2, x, y, rfl, _⟩ := h
    rfl
  · obtain ⟨U, z1, z2, L1, L2, x, y, rfl, hx, hy, d1, d2, hU, sU, k⟩ := h
    obtain ⟨p, a, vs, rfl, hp, ha, hA⟩ := id hx
    obtain ⟨q, a2, vs2, rfl, hq, ha2, hA2⟩ := id hy
    have h1 : Room 1 _ := hr.mono (by decide)
    have h3 : Room 3 _ := hr
    obtain ⟨α, β, a1, b1, a30, b30, eq1, eq2, eq3⟩ := lcm_facts d1.z1 d2.z1 d1.z2 d2.z2
    have sz1 : Sm 10 z1 := by have := d1.z1; have := d1.z2; unfold Sm; omega
    have sz2 : Sm 10 z2 := by have := d2.z1; have := d2.z2; unfold Sm; omega
    have gp : 0 < Int.gcd z1 z2 := Int.gcd_pos_of_ne_zero_left _ (by have := d1.z1; omega)
    have sg : Sm 10 ((Int.gcd z1 z2 : Nat) : Int) := sz1.le (by
      rw [Int.natAbs_natCast]
      exact Nat.le_of_dvd (by have := d1.z1; omega) (Int.gcd_dvd_natAbs_left ..))
    refine ⟨_, (pss_cons (ps_set (i := 3) scAk.nd rfl (Or.inl rfl) (pe_op op_mulW (pe_op op_fdivNW (pe_ix ix_tup (pv 0) pe_int (fun _ _ => rfl)) (pe_call GGc h1 rfl mGc kGc bGc .nil pass0 (pa_cons (pe_ix ix_tup (pv 0) pe_int (fun _ _ => rfl)) (pa_cons (pe_ix ix_tup (pv 1) pe_int (fun _ _ => rfl)) pa_nil)))) (pe_ix ix_tup (pv 1) pe_int (fun _ _ => rfl))))
 (pss_cons (ps_for PassesOwn.never rfl (pi_list (pe_op op_cat (pe_call GCu h1 rfl mCu kCu bCu .nil pass0 (pa_cons (pv 0) (pa_cons (pv 3) (pa_cons (pv 2) pa_nil)))) (pe_call GCu h1 rfl mCu kCu bCu .nil pass0 (pa_cons (pv 1) (pa_cons (pv 3) (pa_cons (pv 2) pa_nil)))))) (pg_name (i := 4) scAk.nd rfl (Or.inl rfl)) (pss_one (ps_if (pt_not (pt_val (pe_call GSm h1 rfl mSm kSm bSm .nil pass0 (pa_cons (pe_call GTs h3 rfl mTs kTs bTs .nil pass0 (pa_cons (pv 0) (pa_cons (pv 4) (pa_cons pe_int (pa_cons (pv 2) pa_nil))))) (pa_cons (pe_call GTs h3 rfl mTs kTs bTs .nil pass0 (pa_cons (pv 1) (pa_cons (pv 4) (pa_cons pe_int (pa_cons (pv 2) pa_nil))))) pa_nil))))) (pss_one (ps_ret pe_bl)) pss_nil)))
 (pss_one (ps_ret pe_bl)))), ?_⟩
    refine ⟨_, rfl, p, _, _, _, rfl, rfl, SqT.of hp, at0, _, rfl, p, _, _, _, rfl, rfl, SqT.of hp, at0, _, rfl, q, _, _, _, rfl, rfl, SqT.of hq, at0, z1, z2, rfl, sz1.mono (by decide), sz2.mono (by decide), ?_⟩
    refine ⟨_, _, rfl, rfl, (sg.mono (show 10 ≤ 390 by decide)).cdiv (by omega), _, rfl, q, _, _, _, rfl, rfl, SqT.of hq, at0, _, _, rfl, rfl, ?_, ?_⟩
    · rw [eq1]
      exact Sm.cmul (k := 10) (j := 10) (by unfold Sm; omega) sz2
    rw [eq1]
    refine ⟨_, rfl, _, rfl, _, rfl, U, z1, _, β, L1, _, rfl, hx, d1.row, d1.z1, by have := d1.z2; omega, hU, sU, eq2, by omega, d1.len, fun p1 H1 e1 hp1 => ?_⟩
    refine ⟨_, rfl, _, rfl, _, rfl, U, z2, _, α, L2, _, rfl, hy.ex e1, d2.row, d2.z1, by have := d2.z2; omega, hU, sU, eq3, by omega, d2.len, fun p2 H2 e2 hp2 => ?_⟩
    have l1 : (cutsOf (z1 * U) β L1).length ≤ 600 := by
      unfold cutsOf
      rw [List.length_cons, cuts_len]
      have := Nat.mul_le_mul (show 2 * β ≤ 60 by omega) d1.len
      omega
    have l2 : (cutsOf (z2 * U) α L2).length ≤ 600 := by
      unfold cutsOf
      rw [List.length_cons, cuts_len]
      have := Nat.mul_le_mul (show 2 * α ≤ 60 by omega) d2.len
      omega
    refine ⟨p1, p2, _, _, rfl, rfl, e2 _ _ hp1, hp2, line_of (by rw [List.length_map, List.length_map]; omega), fun pc nc => ?_⟩
    rw [← List.map_append]
    have hb : ∀ x ∈ cutsOf (z1 * U) β L1 ++ cutsOf (z2 * U) α L2, 0 ≤ x ∧ x ≤ 1000 * U := fun x hx => by
      rcases List.mem_append.mp hx with hx | hx
      · exact cuts_in hU d1.z1 d1.z2 (by omega) hx
      · exact cuts_in hU d2.z1 d2.z2 (by omega) hx
    have fin : (∀ x ∈ cutsOf (z1 * U) β L1 ++ cutsOf (z2 * U) α L2, ∀ b e k : Int, Shw (Ob (z1 * U) (L1.map lrow)) x b e k ↔ Shw (Ob (z2 * U) (L2.map lrow)) x b e k) → ∀ t b e k : Int, Shw (Ob (z1 * U) (L1.map lrow)) t b e k ↔ Shw (Ob (z2 * U) (L2.map lrow)) t b e k := fun h => by
      have hS1 : 0 < z1 * U := Int.mul_pos (by have := d1.z1; omega) hU
      have hS2 : 0 < z2 * U := Int.mul_pos (by have := d2.z1; omega) hU
      refine cut_same (T := z1 * U * (β : Int)) hS1 hS2 rfl ?_ (Int.mul_pos hS1 (by omega)) d1.row d2.row h
      rw [Int.mul_assoc, Int.mul_comm U, ← Int.mul_assoc, ← eq2, eq3, Int.mul_assoc, Int.mul_comm (α : Int) U, ← Int.mul_assoc]
    generalize cutsOf (z1 * U) β L1 ++ cutsOf (z2 * U) α L2 = Cs at *
    have e12 := (e1.trans e2).trans (Ex.new (o := .lst (Cs.map V.int)) nc)
    generalize hH3 : upd H2 pc (.lst (Cs.map V.int)) = H3 at *
    have hpc : H3 pc = some (.lst (Cs.map V.int)) := by rw [← hH3]; exact upd_same
    refine ⟨pc, rfl, ⟨_, SqL.of hpc⟩, for_list (K := K) (a := pc) (xs := Cs.map V.int) (fun i σ H' => ∃ v, σ = [some (.ref p), some (.ref q), some (.int U), some (.int ((α : Int) * z2)), v] ∧ Ex H3 H' ∧ ∀ x ∈ Cs.take i, ∀ b e k : Int, Shw (Ob (z1 * U) (L1.map lrow)) x b e k ↔ Shw (Ob (z2 * U) (L2.map lrow)) x b e k)
      ⟨none, rfl, Ex.refl _, fun x hx => by simp at hx⟩ (fun i σ H' _ ⟨_, _, e, _⟩ => SqL.of (e _ _ hpc)) ?_ ?_⟩
    · rintro i y σ H4 hi ⟨v, rfl, e4, hc⟩
      obtain ⟨x, hx', rfl⟩ : ∃ x, Cs[i]? = some x ∧ y = V.int x := by
        rw [List.getElem?_map] at hi
        cases w : Cs[i]? with
        | none => rw [w] at hi; cases hi
        | some b => rw [w] at hi; cases hi; exact ⟨b, rfl, rfl⟩
      have xm := List.mem_of_getElem? hx'
      obtain ⟨x0, x1⟩ := hb x xm
      have tk : Cs.take (i + 1) = Cs.take i ++ [x] := by
        rw [List.take_succ, hx']
        rfl
      have e14 := e12.trans e4
      refine ⟨_, rfl, _, rfl, _, rfl, U, z1, x, 1, L1, _, rfl, .inl rfl, hx.ex e14, fun r hr => ⟨d1.row r hr, d1.near r hr⟩, d1.z1, by have := d1.z2; omega, hU, sU, d1.len, by omega, by omega, fun M1 v1 H5 hM1 h31 hN1 m1 e5 hv1 => ?_⟩
      refine ⟨_, rfl, _, rfl, _, rfl, U, z2, x, 1, L2, _, rfl, .inl rfl, hy.ex (e14.trans e5), fun r hr => ⟨d2.row r hr, d2.near r hr⟩, d2.z1, by have := d2.z2; omega, hU, sU, d2.len, by omega, by omega, fun M2 v2 H6 hM2 h32 hN2 m2 e6 hv2 => ?_⟩
      refine ⟨M1, M2, _, _, rfl, hv1.ex e6, hv2, by omega, by omega, fun cc H7 e7 hcc => ?_⟩
      have mm : cc = true ↔ ∀ b e k : Int, Shw (Ob (z1 * U) (L1.map lrow)) x b e k ↔ Shw (Ob (z2 * U) (L2.map lrow)) x b e k := by
        rw [hcc]
        constructor
        · rintro ⟨_, i1, i2⟩ b e k
          exact ⟨fun h => (hM2 b e k).mp (i1 _ ((hM1 b e k).mpr h)), fun h => (hM1 b e k).mp (i2 _ ((hM2 b e k).mpr h))⟩
        · intro h
          have i1 : ∀ m ∈ M1, m ∈ M2 := fun m hm => by
            obtain ⟨k, b, e, rfl⟩ := h31 m hm
            exact (hM2 b e k).mpr ((h b e k).mp ((hM1 b e k).mp hm))
          have i2 : ∀ m ∈ M2, m ∈ M1 := fun m hm => by
            obtain ⟨k, b, e, rfl⟩ := h32 m hm
            exact (hM1 b e k).mpr ((h b e k).mpr ((hM2 b e k).mp hm))
          exact ⟨same_len hN1 hN2 fun x => ⟨i1 x, i2 x⟩, i1, i2⟩
      have e47 := e4.trans (e5.trans (e6.trans e7))
      cases cc with
      | true =>
        refine ⟨_, rfl, iteB rfl ?_⟩
        refine ⟨_, rfl, e47, fun x' hx => ?_⟩
        rw [tk] at hx
        rcases List.mem_append.mp hx with hx | hx
        · exact hc x' hx
        · rw [List.mem_singleton.mp hx]
          exact mm.mp rfl
      | false =>
        refine ⟨_, rfl, iteA rfl ?_⟩
        exact k false H7 (e12.trans e47) ⟨fun z => Bool.noConfusion z, fun h => mm.mpr fun b e k => h x b e k⟩
    · rintro σ H4 ⟨v, rfl, e4, hc⟩
      rw [List.length_map, List.take_length] at hc
      exact k true H4 (e12.trans e4) ⟨fun _ => fin hc, fun _ => rfl⟩
/-! ### the least number of rounds, tried -/
theorem shw_shr {S x : Int} {N : Nat} {L : List (List Int)} (hL : ∀ r ∈ L, LRowK N r) (t b e k : Int) : Shw (Ob S ((L.map (shr x)).map lrow)) t b e k ↔ Shw (Ob S (L.map lrow)) (t - x) (b - x) (e - x) k := by
  constructor
  · rintro ⟨s, p, ⟨q, hq, j, er⟩, h1, h2⟩
    obtain ⟨w, hw, rfl⟩ := List.mem_map.mp hq
    obtain ⟨r, hr, rfl⟩ := List.mem_map.mp hw
    obtain ⟨k0, b0, e0, lo, hi, rfl, _⟩ := hL r hr
    have er : [s, p, b, e, k] = [lo + x + S * j, hi + x + S * j, b0 + x + S * j, e0 + x + S * j, k0] := er
    injection er with z1 er
    injection er with z2 er
    injection er with z3 er
    injection er with z4 er
    injection er with z5 _
    refine ⟨s - x, p - x, ⟨_, List.mem_map.mpr ⟨_, hr, rfl⟩, j, ?_⟩, by omega, by omega⟩
    show _ = [lo + S * j, hi + S * j, b0 + S * j, e0 + S * j, k0]
    rw [z5, show s - x = lo + S * j by omega, show p - x = hi + S * j by omega, show b - x = b0 + S * j by omega, show e - x = e0 + S * j by omega]
  · rintro ⟨s, p, ⟨q, hq, j, er⟩, h1, h2⟩
    obtain ⟨r, hr, rfl⟩ := List.mem_map.mp hq
    obtain ⟨k0, b0, e0, lo, hi, rfl, _⟩ := hL r hr
    have er : [s, p, b - x, e - x, k] = [lo + S * j, hi + S * j, b0 + S * j, e0 + S * j, k0] := er
    injection er with z1 er
    injection er with z2 er
    injection er with z3 er
    injection er with z4 er
    injection er with z5 _
    refine ⟨s + x, p + x, ⟨_, List.mem_map.mpr ⟨_, List.mem_map.mpr ⟨_, hr, rfl⟩, rfl⟩, j, ?_⟩, by omega, by omega⟩
    show _ = [lo + x + S * j, hi + x + S * j, b0 + x + S * j, e0 + x + S * j, k0]
    rw [z5, show s + x = lo + x + S * j by omega, show p + x = hi + x + S * j by omega, show b = b0 + x + S * j by omega, show e = e0 + x + S * j by omega]
theorem per_alike {S D : Int} {N : Nat} {L : List (List Int)} (hL : ∀ r ∈ L, LRowK N r) : (∀ t b e k : Int, Shw (Ob S (L.map lrow)) t b e k ↔ Shw (Ob S ((L.map (shr D)).map lrow)) t b e k) ↔ Per (Ob S (L.map lrow)) D := by
  constructor
  · intro h t b e k
    rw [h, shw_shr hL, Int.add_sub_cancel, Int.add_sub_cancel, Int.add_sub_cancel]
  · intro h t b e k
    have := h (t - D) (b - D) (e - D) k
    rw [Int.sub_add_cancel, Int.sub_add_cancel, Int.sub_add_cancel] at this
    rw [this, shw_shr hL]
theorem dsc_shr {U m z x : Int} {L : List (List Int)} (h : Dsc U m z L) (hU : 0 < U) (sU : Sm 60 U) (m0 : 0 ≤ m) (m1 : m ≤ 1000) (x0 : -(30 * U) ≤ x) (x1 : x ≤ 30 * U) : Dsc U (m + 30) z (L.map (shr x)) := by
  have hm : m * U ≤ 1000 * U := Int.mul_le_mul_of_nonneg_right m1 (Int.le_of_lt hU)
  have s100 : Sm 100 (3000 * U) := by
    unfold Sm at *
    omega
  have small : ∀ n : Int, -(3000 * U) ≤ n → n ≤ 3000 * U → Sm 200 n := fun n a b => (s100.mono (by decide)).le (by omega)
  have both : ∀ r ∈ L, LRow (shr x r) ∧ Near U (m + 30) (shr x r) := fun r hr => by
    obtain ⟨k0, b0, e0, lo, hi, rfl, o1, o2, o3, sk, sb, se⟩ := h.row r hr
    obtain ⟨n1, n2⟩ := h.near _ hr
    have n1 : -(m * U) ≤ b0 := n1
    have n2 : e0 ≤ m * U := n2
    refine ⟨⟨k0, b0 + x, e0 + x, lo + x, hi + x, rfl, by omega, by omega, by omega, sk, small _ (by omega) (by omega), small _ (by omega) (by omega)⟩, ?_, ?_⟩
    · show -((m + 30) * U) ≤ b0 + x
      rw [Int.add_mul]
      omega
    · show e0 + x ≤ (m + 30) * U
      rw [Int.add_mul]
      omega
  refine ⟨fun r hr => ?_, fun r hr => ?_, h.z1, h.z2, by rw [List.length_map]; exact h.len⟩
  · obtain ⟨w, hw, rfl⟩ := List.mem_map.mp hr
    exact (both w hw).1
  · obtain ⟨w, hw, rfl⟩ := List.mem_map.mp hr
    exact (both w hw).2
abbrev sLs : Stmt := top 126
theorem scLs : FnScope ["_law_fill_here", "_law_unit_here", "_law_by"] ["_law_fill_here", "_law_unit_here"] (defScope sLs) := ⟨rfl, rfl, rfl, by decide +kernel, rfl, by decide +kernel, by decide +kernel⟩
def spLs : Sp := fun vs H Q _ => ∃ (U z : Int) (L : List (List Int)) (v : V), vs = [v, .int U] ∧ FiR z L v H ∧ Dsc U 1000 z L ∧ 0 < U ∧ Sm 60 U ∧
  ∀ (q : Int) (H' : Hp), Ex H H' → 1 ≤ q → q ≤ z → q ∣ z → Per (Ob (z * U) (L.map lrow)) (q * U) → (∀ q' : Int, 1 ≤ q' → q' < q → q' ∣ z → ¬ Per (Ob (z * U) (L.map lrow)) (q' * U)) → Q (.int q) H'
theorem ok_least {f : Addr} {fd : FuncData} (F : Fun K "_law_least" "_law_least" sLs f fd) (T : Txt K mg C) (OA : Ok P w K mg base CX0 4 "_law_alike" ["_law_one_here", "_law_two", "_law_unit_here"] spAk) (OL : Ok P w K mg base CX0 1 "_law_later" ["_law_fill_here", "_law_by"] spLl) : FnOk P w K mg base CX0 5 f fd ["_law_fill_here", "_law_unit_here"] spLs := by
  obtain ⟨fAk, fdAk, GAk, mAk, kAk, bAk⟩ := OA
  obtain ⟨fLl, fdLl, GLl, mLl, kLl, bLl⟩ := OL
  refine F.ok scLs (fun vs H Q E h => ?_) (fun cdv A outer s H vs Q E hr h => ?_)
  · obtain ⟨U, z, L, v, rfl, _⟩ := h
    rfl
  · obtain ⟨U, z, L, v, rfl, hF, d, hU, sU, k⟩ := h
    obtain ⟨p, a, vs, rfl, hp, ha, hA⟩ := id hF
    have h1 : Room 1 _ := hr.mono (by decide)
    have h4 : Room 4 _ := hr
    have z1 := d.z1
    have z2 := d.z2
    have sz : Sm 10 z := by unfold Sm; omega
    refine ⟨_, (pss_cons (ps_for PassesOwn.never rfl (pi_range2 rfl T.range (pa_cons pe_int (pa_cons (pe_ix ix_tup (pv 0) pe_int (fun _ _ => rfl)) pa_nil))) (pg_name (i := 2) scLs.nd rfl (Or.inl rfl)) (pss_one (ps_if (PW.pt (pw_and (pt_cmpR op_eq (pe_op op_mulW (pe_op op_fdivNW (pe_ix ix_tup (pv 0) pe_int (fun _ _ => rfl)) (pv 2)) (pv 2)) (pe_ix ix_tup (pv 0) pe_int (fun _ _ => rfl)) (nomark _)) (pw_and1 (pt_val (pe_call GAk h4 rfl mAk kAk bAk .nil pass0 (pa_cons (pv 0) (pa_cons (pe_call GLl h1 rfl mLl kLl bLl .nil pass0 (pa_cons (pv 0) (pa_cons (pe_op op_mulW (pv 2) (pv 1)) pa_nil))) (pa_cons (pv 1) pa_nil)))))))) (pss_one (ps_ret (pv 2))) pss_nil)))
 (pss_one (ps_ret (pe_ix ix_tup (pv 0) pe_int (fun _ _ => rfl))))), ?_⟩
    refine ⟨_, rfl, p, _, _, _, rfl, rfl, SqT.of hp, at0, _, _, rfl, ⟨by decide, by decide, by omega, by omega⟩, for_range (lo := 1) (n := (z - 1).toNat) (fun i σ H' => ∃ w2, σ = [some (.ref p), some (.int U), w2] ∧ Ex H H' ∧ ∀ q' : Int, 1 ≤ q' → q' < 1 + (i : Int) → q' ∣ z → ¬ Per (Ob (z * U) (L.map lrow)) (q' * U))
      ⟨none, rfl, Ex.refl _, fun q' a b => by omega⟩ ?_ ?_⟩
    · rintro i σ H1 hi ⟨w2, rfl, e1, hno⟩
      obtain ⟨y, ey⟩ : ∃ y : Int, 1 + (i : Int) = y := ⟨_, rfl⟩
      have y1 : 1 ≤ y := by omega
      have y2 : y < z := by omega
      have sy : Sm 10 y := by unfold Sm; omega
      have hp1 := e1 _ _ hp
      rw [ey]
      have nx : ∀ H', Ex H H' → ¬ (y ∣ z ∧ Per (Ob (z * U) (L.map lrow)) (y * U)) → ∃ w2, [some (V.ref p), some (V.int U), some (V.int y)] = [some (V.ref p), some (V.int U), w2] ∧ Ex H H' ∧ ∀ q' : Int, 1 ≤ q' → q' < 1 + ((i + 1 : Nat) : Int) → q' ∣ z → ¬ Per (Ob (z * U) (L.map lrow)) (q' * U) := fun H' e h => by
        refine ⟨_, rfl, e, fun q' a b c g => ?_⟩
        rcases Int.lt_or_eq_of_le (show q' ≤ y by omega) with w | w
        · exact hno q' a (by omega) c g
        · subst w
          exact h ⟨c, g⟩
      have ed : z.fdiv y * y = z ↔ y ∣ z := by
        rw [Int.fdiv_eq_ediv_of_nonneg _ (by omega)]
        exact ⟨fun h => ⟨z / y, by rw [Int.mul_comm]; exact h.symm⟩, fun h => Int.ediv_mul_cancel h⟩
      have sq : Sm 10 (z.fdiv y) := sz.le (by
        rw [Int.fdiv_eq_ediv_of_nonneg _ (by omega)]
        exact Int.natAbs_ediv_le_natAbs _ _)
      refine ⟨_, rfl, p, _, _, _, rfl, rfl, SqT.of hp1, at0, _, rfl, _, _, rfl, rfl, (sy.mono (show 10 ≤ 390 by decide)).cdiv (by omega), _, rfl, _, _, rfl, rfl, Sm.cmul (k := 10) (j := 10) sq sy, _, rfl, p, _, _, _, rfl, rfl, SqT.of hp1, at0, rfl, _, rfl, ite2 (fun c1 => ?_) (fun c1 => ?_)⟩
      · have c1 : y ∣ z := ed.mp (by
          have w := of_decide_eq_true c1
          injection w)
        have yU : y * U ≤ 30 * U := Int.mul_le_mul_of_nonneg_right (by omega) (Int.le_of_lt hU)
        have yU0 := Int.mul_pos (show 0 < y by omega) hU
        refine ⟨_, rfl, _, rfl, _, rfl, _, rfl, _, _, rfl, rfl, Sm.cmul (k := 10) (j := 60) sy sU, _, z, y * U, L, rfl, hF.ex e1, fun r hr => ⟨_, d.row r hr⟩, by have := d.len; omega, fun v' H2 e2 hF2 => ?_⟩
        refine ⟨_, rfl, U, z, z, L, L.map (shr (y * U)), _, v', rfl, hF.ex (e1.trans e2), hF2, d.mono (Int.le_of_lt hU) (by decide), (dsc_shr d hU sU (by decide) (by decide) (by omega) yU).mono (Int.le_of_lt hU) (by decide), hU, sU, fun c H3 e3 hc => ?_⟩
        have hc := hc.trans (per_alike d.row)
        refine ⟨_, rfl, ite2 (fun c2 => ?_) (fun c2 => ?_)⟩
        · exact ⟨_, rfl, k y H3 (e1.trans (e2.trans e3)) y1 (by omega) c1 (hc.mp c2) fun q' a b => hno q' a (by omega)⟩
        · exact nx H3 (e1.trans (e2.trans e3)) fun w => c2 (hc.mpr w.2)
      · have c1 : ¬ y ∣ z := fun w => c1 (decide_eq_true (show V.int (z.fdiv y * y) = V.int z by rw [ed.mpr w]))
        exact iteB rfl (nx H1 e1 fun w => c1 w.1)
    · rintro σ H1 ⟨w2, rfl, e1, hno⟩
      refine ⟨_, rfl, p, _, _, _, rfl, rfl, SqT.of (e1 _ _ hp), at0, k z H1 e1 z1 (Int.le_refl _) (Int.dvd_refl _) ?_ fun q' a b => hno q' a (by omega)⟩
      have := per_self (S := z * U) (lrow5 d.row) 1
      rw [Int.mul_one] at this
      exact this
/-! ### a description, repeated -/
theorem al_append {α : Type} {P : α → V → Hp → Prop} {H : Hp} : ∀ {as bs : List α} {xs ys : List V}, Al P H as xs → Al P H bs ys → Al P H (as ++ bs) (xs ++ ys)
  | _, _, _, _, .nil, h => h
  | _, _, _, _, .cons hx hX, h => .cons hx (al_append hX h)
abbrev sRp : Stmt := top 127
theorem scRp : FnScope ["_law_fill_here", "_law_count", "_law_unit_here", "_law_rows", "_law_turn"] ["_law_fill_here", "_law_count", "_law_unit_here"] (defScope sRp) := ⟨rfl, rfl, rfl, by decide +kernel, rfl, by decide +kernel, by decide +kernel⟩
def spRp : Sp := fun vs H Q _ => ∃ (U z : Int) (n : Nat) (L : List (List Int)) (v : V), vs = [v, .int n, .int U] ∧ FiR z L v H ∧ Dsc U 20 z L ∧ z ≤ 3 ∧ L.length ≤ 2 ∧ 1 ≤ n ∧ n ≤ 3 ∧ 0 < U ∧ Sm 60 U ∧
  ∀ (L2 : List (List Int)) (v' : V) (H' : Hp), Ex H H' → FiR (z * (n : Int)) L2 v' H' → Dsc U 50 (z * (n : Int)) L2 → L2.length ≤ 6 → Q v' H'
theorem ok_repeated {f : Addr} {fd : FuncData} (F : Fun K "_law_repeated" "_law_repeated" sRp f fd) (T : Txt K mg C) (OL : Ok P w K mg base CX0 1 "_law_later" ["_law_fill_here", "_law_by"] spLl) : FnOk P w K mg base CX0 2 f fd ["_law_fill_here", "_law_count", "_law_unit_here"] spRp := by
  obtain ⟨fLl, fdLl, GLl, mLl, kLl, bLl⟩ := OL
  refine F.ok scRp (fun vs H Q E h => ?_) (fun cdv A outer s H vs Q E hr h => ?_)
  · obtain ⟨U, z, n, L, v, rfl, _⟩ := h
    rfl
  · obtain ⟨U, z, n, L, v, rfl, hF, d, z3, l2, n1, n3, hU, sU, k⟩ := h
    obtain ⟨p, a, vs, rfl, hp, ha, hA⟩ := id hF
    have h1 : Room 1 _ := hr
    have z1 := d.z1
    have sz : Sm 10 z := by unfold Sm; omega
    refine ⟨_, (pss_cons (ps_set (i := 3) scRp.nd rfl (Or.inl rfl) (pe_callTy call_list_of rfl T.lst PyProof.Rows.boot_list (pa_cons (pe_ix ix_tup (pv 0) pe_int (fun _ _ => rfl)) pa_nil)))
 (pss_cons (ps_for PassesOwn.never rfl (pi_range2 rfl T.range (pa_cons pe_int (pa_cons (pv 1) pa_nil))) (pg_name (i := 4) scRp.nd rfl (Or.inl rfl)) (pss_one (ps_set (i := 3) scRp.nd rfl (Or.inl rfl) (pe_op op_cat (pv 3) (pe_ix ix_tup (pe_call GLl h1 rfl mLl kLl bLl .nil pass0 (pa_cons (pv 0) (pa_cons (pe_op op_mulW (pe_op op_mulW (pv 4) (pe_ix ix_tup (pv 0) pe_int (fun _ _ => rfl))) (pv 2)) pa_nil))) pe_int (fun _ _ => rfl))))))
 (pss_one (ps_ret (pe_tup (pa_cons (pe_op op_mulW (pe_ix ix_tup (pv 0) pe_int (fun _ _ => rfl)) (pv 1)) (pa_cons (pv 3) pa_nil))))))), ?_⟩
    refine ⟨_, rfl, p, _, _, _, rfl, rfl, SqT.of hp, at1, a, vs, rfl, .inl (SqL.of ha), fun l hl => ?_⟩
    have el : Ex H (upd H l (.lst vs)) := Ex.new hl
    refine ⟨_, rfl, _, _, rfl, ⟨by decide, by decide, by omega, by omega⟩, for_range (lo := 1) (n := ((n : Int) - 1).toNat) (fun i σ H' => ∃ w4 o zs M, σ = [some (.ref p), some (.int n), some (.int U), some (.ref o), w4] ∧ Ex H H' ∧ H' o = some (.lst zs) ∧ Al TuI H' M zs ∧ M.length ≤ 2 * (i + 1) ∧ ∀ r ∈ M, LRow r ∧ Near U 50 r)
      ⟨none, l, vs, L, rfl, el, upd_same, alI_ex hA el, by omega, fun r hr => ⟨d.row r hr, (d.near r hr).mono (Int.le_of_lt hU) (by decide)⟩⟩ ?_ ?_⟩
    · rintro i σ H1 hi ⟨w4, o, zs, M, rfl, e1, hz, hM, lM, aM⟩
      obtain ⟨y, ey⟩ : ∃ y : Int, 1 + (i : Int) = y := ⟨_, rfl⟩
      have y1 : 1 ≤ y := by omega
      have y2 : y ≤ 2 := by omega
      have sy : Sm 10 y := by unfold Sm; omega
      rw [ey]
      have hp1 := e1 _ _ hp
      have b1 := Int.mul_le_mul_of_nonneg_right y2 (show 0 ≤ z by omega)
      have b0 := Int.mul_pos (show 0 < y by omega) (show 0 < z by omega)
      have syz : Sm 20 (y * z) := by unfold Sm; omega
      have b2 := Int.mul_le_mul_of_nonneg_right (show y * z ≤ 6 by omega) (Int.le_of_lt hU)
      have b3 := Int.mul_pos b0 hU
      refine ⟨_, rfl, _, rfl, _, rfl, _, rfl, p, _, _, _, rfl, rfl, SqT.of hp1, at0, _, _, rfl, rfl, Sm.cmul (k := 10) (j := 10) sy sz, _, rfl, _, _, rfl, rfl, Sm.cmul (k := 20) (j := 60) syz sU, _, z, y * z * U, L, rfl, hF.ex e1, fun r hr => ⟨_, d.row r hr⟩, by omega, fun v' H2 e2 hF2 => ?_⟩
      obtain ⟨p2, a2, vs2, rfl, hp2, ha2, hA2⟩ := id hF2
      have ds := dsc_shr d hU sU (by decide) (by decide) (show -(30 * U) ≤ y * z * U by omega) (show y * z * U ≤ 30 * U by omega)
      have lz := hM.len
      have lz2 := hA2.len
      rw [List.length_map] at lz2
      refine ⟨p2, _, _, _, rfl, rfl, SqT.of hp2, at1, o, a2, zs, vs2, rfl, rfl, e2 _ _ hz, ha2, line_of (by omega), fun pc nc => ?_⟩
      have ec : Ex H2 (upd H2 pc (.lst (zs ++ vs2))) := Ex.new nc
      refine ⟨_, pc, zs ++ vs2, M ++ L.map (shr (y * z * U)), rfl, e1.trans (e2.trans ec), upd_same, ?_, by rw [List.length_append, List.length_map]; omega, fun r hr => ?_⟩
      · exact al_append (alI_ex hM (e2.trans ec)) (alI_ex hA2 ec)
      · rcases List.mem_append.mp hr with hr | hr
        · exact aM r hr
        · exact ⟨ds.row r hr, ds.near r hr⟩
    · rintro σ H1 ⟨w4, o, zs, M, rfl, e1, hz, hM, lM, aM⟩
      have b1 := Int.mul_le_mul_of_nonneg_right (show (n : Int) ≤ 3 by omega) (show 0 ≤ z by omega)
      have b0 := Int.mul_pos (show 0 < z by omega) (show 0 < (n : Int) by omega)
      have ec := Int.mul_comm z (n : Int)
      refine ⟨_, rfl, p, _, _, _, rfl, rfl, SqT.of (e1 _ _ hp), at0, _, rfl, _, _, rfl, rfl, Sm.cmul (k := 10) (j := 10) sz (by unfold Sm; omega), _, rfl, by show 2 ≤ sizeLine; decide, fun pt nt => ?_⟩
      have et : Ex H1 (upd H1 pt (.tup [.int (z * (n : Int)), .ref o])) := Ex.new nt
      exact k M _ _ (e1.trans et) ⟨pt, o, zs, rfl, upd_same, et _ _ hz, alI_ex hM et⟩ ⟨fun r hr => (aM r hr).1, fun r hr => (aM r hr).2, by omega, by omega, by omega⟩ (by omega)
/-! ### what a tune holds, in whole numbers -/
def hld (r : Row) : List Int := [r.getD 4 0, r.getD 2 0, r.getD 3 0, r.getD 0 0, r.getD 1 0]
abbrev sHd : Stmt := top 128
theorem scHd : FnScope ["_law_tune_here", "_law_unit_here", "_law_rows", "_law_mark", "_law_tone", "_law_begin", "_law_end"] ["_law_tune_here", "_law_unit_here"] (defScope sHd) := ⟨rfl, rfl, rfl, by decide +kernel, rfl, by decide +kernel, by decide +kernel⟩
def spHd (CT CM C : Addr) : Sp := fun vs H Q _ => ∃ (U z : Int) (L : List Row) (x : V), vs = [x, .int U] ∧ TuA CT CM C U z L x H ∧ 0 < U ∧ Sm 390 U ∧ L.length ≤ 100000 ∧ ∀ (v' : V) (H' : Hp), Ex H H' → FiR z (L.map hld) v' H' → Q v' H'
theorem ok_held {CT CM CK fK f : Addr} {fd : FuncData} (F : Fun K "_law_held" "_law_held" sHd f fd) (T : Txt K mg C) (TU' : TxtU K mg CT) (TK : TxtK K mg CM CK fK) (OK : Ok P w K mg base CX0 2 "_law_key" ["_law_mark", "_law_unit_here"] (spKy CM C)) (OU : Ok P w K mg base CX0 1 "_law_units" ["_law_moment", "_law_unit_here"] (spUs C)) : FnOk P w K mg base CX0 3 f fd ["_law_tune_here", "_law_unit_here"] (spHd CT CM C) := by
  obtain ⟨fKy, fdKy, GKy, mKy, kKy, bKy⟩ := OK
  obtain ⟨fUs, fdUs, GUs, mUs, kUs, bUs⟩ := OU
  refine F.ok scHd (fun vs H Q E h => ?_) (fun cdv A outer s H vs Q E hr h => ?_)
  · obtain ⟨U, z, L, x, rfl, _⟩ := h
    rfl
  · obtain ⟨U, z, L, x, rfl, hT, hU, sU, hlen, k⟩ := h
    obtain ⟨a, dx, pm, xs, rfl, ha, hpm, hx⟩ := hT
    have h1 : Room 1 _ := hr.mono (by decide)
    have h2 : Room 2 _ := hr
    have lx := hx.len
    refine ⟨_, (pss_cons (ps_set (i := 2) scHd.nd rfl (Or.inl rfl) (pe_lst pa_nil))
 (pss_cons (ps_for PassesOwn.never rfl (pi_list (pe_fld (pv 0) rfl)) (pg_name (i := 3) scHd.nd rfl (Or.inl rfl)) (pss_cons (ps_asg (pe_call GKy h2 rfl mKy kKy bKy .nil pass0 (pa_cons (pv 3) (pa_cons (pv 1) pa_nil))) (pg_tup rfl (pgs_cons (pg_name (i := 4) scHd.nd rfl (Or.inl rfl)) (pgs_cons (pg_name (i := 5) scHd.nd rfl (Or.inl rfl)) (pgs_cons (pg_name (i := 6) scHd.nd rfl (Or.inl rfl)) pgs_nil)))))
 (pss_one (ps_expr (pe_bm PySem.F.plainAttrs_list PySem.F.slot_list_append PySem.F.type_list_append mt_append (pv 2) (pa_cons (pe_tup (pa_cons (pv 4) (pa_cons (pv 5) (pa_cons (pv 6) (pa_cons (pe_call GUs h1 rfl mUs kUs bUs .nil pass0 (pa_cons (pe_fld (pv 3) rfl) (pa_cons (pv 1) pa_nil))) (pa_cons (pe_call GUs h1 rfl mUs kUs bUs .nil pass0 (pa_cons (pe_fld (pv 3) rfl) (pa_cons (pv 1) pa_nil))) pa_nil)))))) pa_nil))))))
 (pss_one (ps_ret (pe_tup (pa_cons (pe_fld (pv 0) rfl) (pa_cons (pv 2) pa_nil))))))), ?_⟩
    refine ⟨by show 0 ≤ sizeLine; decide, fun o ho => ?_⟩
    have eo : Ex H (upd H o (.lst [])) := Ex.new ho
    refine ⟨_, rfl, a, CT, dx, _, _, rfl, eo _ _ ha, TU'.cl, TU'.aM, tF_marks, pm, rfl, ⟨_, SqL.of (eo _ _ hpm)⟩, for_list (K := K) (a := pm) (xs := xs) (fun i σ H' => ∃ v3 v4 v5 v6 zs, σ = [some (.ref a), some (.int U), some (.ref o), v3, v4, v5, v6] ∧ Ex H H' ∧ H' o = some (.lst zs) ∧ Al TuI H' ((L.take i).map hld) zs)
      ⟨none, none, none, none, [], rfl, eo, upd_same, .nil⟩ (fun i σ H' _ ⟨_, _, _, _, _, _, e, _⟩ => SqL.of (e _ _ hpm)) ?_ ?_⟩
    · rintro i y σ H1 hi ⟨v3, v4, v5, v6, zs, rfl, e1, hz, hZ⟩
      obtain ⟨r, hr1, hr2⟩ := hx.getV hi
      have tk : L.take (i + 1) = L.take i ++ [r] := by
        rw [List.take_succ, hr1]
        rfl
      have mk := hr2.ex e1
      obtain ⟨s0, p0, b0, e0, k0, am, d, ys, yp, yb, ye, rfl, rfl, hm, m1, m2, m3, m4⟩ := id mk
      refine ⟨_, rfl, _, rfl, U, [s0, p0, b0, e0, k0], _, rfl, mk, hU, sU, fun v' H2 e2 tv => ?_⟩
      obtain ⟨q, rfl, hq⟩ := tv
      have hm2 := e2 _ _ hm
      refine ⟨q, _, rfl, SqT.of hq, rfl, _, _, rfl, _, _, rfl, _, _, rfl, rfl, ?_⟩
      refine ⟨_, rfl, .inl ⟨rfl, _, SqL.of (e2 _ _ hz)⟩, _, rfl, _, rfl, _, rfl, _, rfl, am, CM, d, _, _, rfl, hm2, TK.cl, TK.aS, kf_start, _, rfl, U, s0, _, rfl, m1.ex e2, hU, sU, ?_⟩
      refine ⟨_, rfl, am, CM, d, _, _, rfl, hm2, TK.cl, TK.aP, kf_stop, _, rfl, U, p0, _, rfl, m2.ex e2, hU, sU, by show 5 ≤ sizeLine; decide, fun pt nt => ?_⟩
      have et : Ex H2 (upd H2 pt (.tup ((hld [s0, p0, b0, e0, k0]).map V.int))) := Ex.new nt
      have hz3 := et _ _ (e2 _ _ hz)
      have s3 := St.lst (o := .lst (zs ++ [V.ref pt])) hz3
      have lz := hZ.len
      rw [List.length_map, List.length_take] at lz
      refine ⟨o, zs, _, rfl, rfl, hz3, line_lt (by omega), ?_⟩
      refine ⟨_, _, _, _, zs ++ [V.ref pt], rfl, Evl.Ex.mut (e1.trans (e2.trans et)) ho, upd_same, ?_⟩
      rw [tk, List.map_append]
      exact (alI_st (alI_ex hZ (e2.trans et)) s3).snoc (TuI.st s3 ⟨pt, rfl, upd_same⟩)
    · rintro σ H1 ⟨v3, v4, v5, v6, zs, rfl, e1, hz, hZ⟩
      rw [lx, List.take_length] at hZ
      refine ⟨_, rfl, a, CT, dx, _, _, rfl, e1 _ _ ha, TU'.cl, TU'.aR, tF_rounds, _, rfl, by show 2 ≤ sizeLine; decide, fun pt nt => ?_⟩
      have et : Ex H1 (upd H1 pt (.tup [.int z, .ref o])) := Ex.new nt
      exact k _ _ (e1.trans et) ⟨pt, o, zs, rfl, upd_same, et _ _ hz, alI_ex hZ et⟩
/-! ### how many rows a reading has -/
theorem ring_wide {U S D : Int} {Pd : Int → Prop} (hU : 0 < U) {L : List Row} (h5 : ∀ r ∈ L, Row5 r) (hD : ∀ r ∈ L, r.getD 3 0 - r.getD 2 0 ≤ D ∧ Pd (r.getD 4 0)) : ∀ r ∈ ringOf U S L, r.getD 3 0 - r.getD 2 0 ≤ D ∧ Pd (r.getD 4 0) := fun r hr => by
  have hr := (asc_perm _).mem_iff.mp hr
  obtain ⟨q, hq, rfl⟩ := List.mem_map.mp hr
  have hq := (asc_perm _).mem_iff.mp hq
  obtain ⟨w, hw, e⟩ := long_mem hU (home_row5 h5) hq
  obtain ⟨x, hx, rfl⟩ := List.mem_map.mp hw
  have h := hD x hx
  obtain ⟨s, p, b, e1, k, rfl, _⟩ := long5 hU (home_row5 h5) q hq
  obtain ⟨s', p', b', e', k', rfl, _⟩ := h5 x hx
  have e : [b, e1, k] = [b' + hm S b', e' + hm S b', k'] := e
  injection e with z1 e
  injection e with z2 e
  injection e with z3 _
  have h1 : e' - b' ≤ D := h.1
  have h2 : Pd k' := h.2
  refine ⟨?_, ?_⟩
  · show (e1 + hm S s) - (b + hm S s) ≤ D
    omega
  · show Pd k
    rw [z3]
    exact h2
theorem TuneOf.row5 {U z z' : Int} {L L' : List Row} (h : TuneOf U z L z' L') (hU : 0 < U) (h5 : ∀ r ∈ L, Row5 r) : ∀ r ∈ L', Row5 r := by
  rcases h with ⟨h1, rfl, rfl⟩ | ⟨h1, m, n, h2, h3, rfl, rfl⟩
  · exact fun r hr => nomatch hr
  · exact form_row5 (ring_row5 hU h5)
theorem TuneOf.wide {U z z' D : Int} {Pd : Int → Prop} {L L' : List Row} (h : TuneOf U z L z' L') (hU : 0 < U) (hz : 0 < z) (h5 : ∀ r ∈ L, Row5 r) (hD : ∀ r ∈ L, r.getD 3 0 - r.getD 2 0 ≤ D ∧ Pd (r.getD 4 0)) : 0 < z' ∧ U ≤ z' * U ∧ z' * U ≤ z * U ∧ ∀ r ∈ L', 0 ≤ r.getD 0 0 ∧ r.getD 0 0 ≤ 2 * (z * U) ∧ r.getD 3 0 - r.getD 2 0 ≤ D ∧ Pd (r.getD 4 0) := by
  have hS : 0 < z * U := Int.mul_pos hz hU
  have one : ∀ y : Int, 0 < y → U ≤ y * U := fun y hy => by
    have := Int.mul_le_mul_of_nonneg_right (show (1 : Int) ≤ y by omega) (Int.le_of_lt hU)
    omega
  rcases h with ⟨h1, rfl, rfl⟩ | ⟨h1, m, n, h2, h3, rfl, rfl⟩
  · have := one z hz
    exact ⟨by decide, by omega, by omega, fun r hr => (nomatch hr)⟩
  · obtain ⟨g1, g2, g3, g4⟩ := span_facts hU hz rfl h1 h2 h3
    have he := form_span (n := n) hU
    refine ⟨g2, one _ g2, g4, fun r hr => ?_⟩
    obtain ⟨t, ht, hr⟩ := List.mem_flatMap.mp hr
    obtain ⟨q, hq, rfl⟩ := List.mem_map.mp hr
    have ht := List.mem_range.mp ht
    have hq := List.mem_of_mem_take hq
    obtain ⟨b1, b2⟩ := ring_in hS q hq
    obtain ⟨b3, b4⟩ := ring_wide hU h5 hD q hq
    have hb := (norm_mk (n := n) (Int.ne_of_gt hU)).pos
    have hb : 0 < nb U n := hb
    have h6 : n * (t : Int) ≤ n * nb U n := Int.mul_le_mul_of_nonneg_left (by omega) (Int.le_of_lt g1)
    have h7 : 0 ≤ n * (t : Int) := Int.mul_nonneg (Int.le_of_lt g1) (by omega)
    generalize n * (t : Int) = nt' at *
    refine ⟨?_, ?_, ?_, b4⟩
    · show 0 ≤ q.getD 0 0 + nt'
      omega
    · show q.getD 0 0 + nt' ≤ _
      omega
    · show (q.getD 3 0 + nt') - (q.getD 2 0 + nt') ≤ D
      omega
/-! ### the rows of a tune's form: the first ones of an endless row -/
theorem TuneOf.en {U z z' : Int} {L L' : List Row} (h : TuneOf U z L z' L') (hU : 0 < U) (hz : 0 < z) (h5 : ∀ r ∈ L, Row5 r) : (z' = 1 ∧ L' = [] ∧ ∀ r, ¬ Ob (z' * U) L' r) ∨ ∃ (R : List Row) (N : Nat), Rg (z * U) R ∧ 0 < N ∧ L' = (List.range N).map (En (z * U) R) ∧ (∀ i, En (z * U) R (i + N) = mv (z' * U) (En (z * U) R i)) ∧ ∀ r, Ob (z' * U) L' r ↔ Ob (z * U) R r := by
  have hS : 0 < z * U := Int.mul_pos hz hU
  rcases h with ⟨h1, rfl, rfl⟩ | ⟨h1, m, n, h2, h3, rfl, rfl⟩
  · exact .inl ⟨rfl, rfl, fun r ⟨q, hq, _⟩ => nomatch hq⟩
  · have g := ring_rg hU hS h5 h1
    have em := En.span_turn hU g.r5 h2 g.pos h3
    have hb : 0 < nb U n := (norm_mk (n := n) (Int.ne_of_gt hU)).pos
    have ml := (turn_le g.pos h2 keys_len).1
    refine .inr ⟨ringOf U (z * U) L, (nb U n).toNat * m, g, Nat.mul_pos (by omega) h2.pos, form_En ml g.pos g.r5 em, fun i => ?_, fun r => ?_⟩
    · rw [En.turns em g.r5 g.pos i, form_span hU, Int.toNat_of_nonneg (Int.le_of_lt hb)]
    · rw [form_span hU]
      exact (form_ob hU r).trans (ob_take hU g.r5 h2 g.pos h3 r)
theorem TuneOf.strict {U z z' : Int} {L L' : List Row} (h : TuneOf U z L z' L') (hU : 0 < U) (hz : 0 < z) (h5 : ∀ r ∈ L, Row5 r) : L'.Pairwise fun r q => lt r q = true := by
  rcases h.en hU hz h5 with ⟨_, rfl, _⟩ | ⟨R, N, g, _, rfl, _, _⟩
  · exact .nil
  · exact List.pairwise_map.mpr (List.pairwise_lt_range.imp fun w => g.lt w)
theorem Rg.up {S : Int} {R : List Row} (h : Rg S R) (i : Nat) : 0 ≤ (En S R i).getD 0 0 := by
  have a := (h.st i).1
  have := Int.mul_nonneg (Int.le_of_lt h.pS) (Int.natCast_nonneg (i / R.length))
  omega
theorem TuneOf.bd {U z z' : Int} {L L' : List Row} (h : TuneOf U z L z' L') (hU : 0 < U) (hz : 0 < z) (h5 : ∀ r ∈ L, Row5 r) : ∀ r ∈ L', 0 ≤ r.getD 0 0 ∧ r.getD 0 0 < z' * U := fun r hr => by
  rcases h.en hU hz h5 with ⟨_, rfl, _⟩ | ⟨R, N, g, _, eL, en, ob⟩
  · cases hr
  · obtain ⟨i, hi, er⟩ := List.mem_map.mp (eL ▸ hr)
    have hi := List.mem_range.mp hi
    rw [← er]
    refine ⟨g.up i, Int.not_le.mp fun c => ?_⟩
    have o : Ob (z * U) R (mv (z' * U * -1) (En (z * U) R i)) := (ob _).mp (((ob _).mpr (g.ob i)).shift (-1))
    obtain ⟨y, hy⟩ := g.has o (by
      rw [mv_st, Int.mul_neg, Int.mul_one]
      omega)
    have e2 := en y
    rw [← hy, mv_mv, Int.mul_neg, Int.mul_one, Int.add_left_neg, mv_zero (En.row g.r5 g.pos i)] at e2
    rcases Nat.lt_trichotomy (y + N) i with w | w | w
    · omega
    · omega
    · have := g.lt w
      rw [e2, lt_irrefl] at this
      cases this
theorem TuneOf.rounds {U z z' : Int} {L L' : List Row} (h : TuneOf U z L z' L') (hU : 0 < U) (hz : 0 < z) (h5 : ∀ r ∈ L, Row5 r) : z' ∣ z ∧ Per (Ob (z * U) L) (z' * U) := by
  obtain ⟨g1, N, sh⟩ := h.nf hU hz h5
  have r5 := h.row5 hU h5
  constructor
  · refine h.least hU hz h5 hz ?_
    have := per_self (S := z * U) h5 1
    rw [Int.mul_one] at this
    exact this
  · intro t b e k
    have := per_self (S := z' * U) r5 1 t b e k
    rw [Int.mul_one] at this
    rw [← sh, ← sh]
    exact this
theorem NF.ends {O : Row → Prop} (N : NF O) {s p b e k : Int} (o : O [s, p, b, e, k]) : ¬ Shw O (s - 1) b e k ∧ ¬ Shw O p b e k := by
  obtain ⟨s', p', b', e', k', er, g1, g2, g3⟩ := N.row _ o
  injection er with z1 er
  injection er with z2 _
  constructor
  · rintro ⟨s2, p2, o2, h1, h2⟩
    rcases N.sep o2 o with ⟨w, _⟩ | w | w <;> omega
  · rintro ⟨s2, p2, o2, h1, h2⟩
    rcases N.sep o2 o with ⟨_, w⟩ | w | w <;> omega
theorem lrow_hld {L : List Row} (h : ∀ r ∈ L, Row5 r) : (L.map hld).map lrow = L := by
  rw [List.map_map]
  refine (List.map_congr_left fun r hr => ?_).trans (List.map_id _)
  obtain ⟨s, p, b, e, k, rfl, _⟩ := h r hr
  rfl
theorem TuneOf.dsc {U z z' : Int} {L : List (List Int)} {L' : List Row} (h : TuneOf U z (L.map lrow) z' L') (hU : 0 < U) (sU : Sm 60 U) (d : Dsc U 50 z L) (z9 : z ≤ 9) (l6 : L.length ≤ 6) : 0 < z' ∧ z' ≤ 9 ∧ L'.length ≤ 6 ∧ Dsc U 200 z' (L'.map hld) := by
  have h5 := lrow5 d.row
  have z1 := d.z1
  have hS : z * U ≤ 9 * U := Int.mul_le_mul_of_nonneg_right z9 (Int.le_of_lt hU)
  have hS0 : 0 < z * U := Int.mul_pos (by omega) hU
  have s100 : Sm 100 (1000 * U) := by
    unfold Sm at *
    omega
  have small : ∀ {k : Nat} (n : Int), 100 ≤ k → -(1000 * U) ≤ n → n ≤ 1000 * U → Sm k n := fun n hk a b => (s100.mono hk).le (by omega)
  obtain ⟨w1, w2, w3, w4⟩ := TuneOf.wide (D := 100 * U) (Pd := Sm 200) h hU (by omega) h5 fun r hr => by
    obtain ⟨w, hw, rfl⟩ := List.mem_map.mp hr
    obtain ⟨n1, n2⟩ := d.near w hw
    obtain ⟨k, b, e, lo, hi, rfl, _, _, _, sk, _⟩ := d.row w hw
    have n1 : -(50 * U) ≤ b := n1
    have n2 : e ≤ 50 * U := n2
    refine ⟨?_, sk⟩
    show e - b ≤ 100 * U
    omega
  obtain ⟨_, _, c3⟩ := h.sizes hU (by omega) (small _ (by decide) (by omega) (by omega)) (fun r hr => by
    obtain ⟨w, hw, rfl⟩ := List.mem_map.mp hr
    exact fun x hx => ((d.row w hw).sm x hx).mono (by decide)) (by rw [List.length_map]; omega)
  rw [List.length_map] at c3
  have zz : z' ≤ 9 := by
    refine Int.not_lt.mp fun c => ?_
    have := Int.mul_le_mul_of_nonneg_right (show 10 ≤ z' by omega) (Int.le_of_lt hU)
    omega
  have r5 := h.row5 hU h5
  have both : ∀ r ∈ L', LRow (hld r) ∧ Near U 200 (hld r) := fun r hr => by
    obtain ⟨v1, v2, v3, v4⟩ := w4 r hr
    obtain ⟨s, p, b, e, k, rfl, g1, g2, g3⟩ := r5 r hr
    have v1 : 0 ≤ s := v1
    have v2 : s ≤ 2 * (z * U) := v2
    have v3 : e - b ≤ 100 * U := v3
    have v4 : Sm 200 k := v4
    refine ⟨⟨k, b, e, s, p, rfl, g1, g2, g3, v4, small _ (by decide) (by omega) (by omega), small _ (by decide) (by omega) (by omega)⟩, ?_, ?_⟩
    · show -(200 * U) ≤ b
      omega
    · show e ≤ 200 * U
      omega
  refine ⟨w1, zz, by omega, fun r hr => ?_, fun r hr => ?_, by omega, by omega, by rw [List.length_map]; omega⟩
  · obtain ⟨w, hw, rfl⟩ := List.mem_map.mp hr
    exact (both w hw).1
  · obtain ⟨w, hw, rfl⟩ := List.mem_map.mp hr
    exact (both w hw).2
/-! ### equal lists of marks -/
theorem al_prs {CM : Addr} {U : Int} {H : Hp} (hU : 0 < U) : ∀ {R : List Row} {xs ys : List V}, Al (MrU CM C U) H R xs → Al (MrU CM C U) H R ys → Prs (DIns CM (RMk CM C)) xs ys H
  | _, _, _, .nil, h => by
    cases h
    exact Prs.nil
  | _, _, _, .cons hx hX, h => by
    cases h with | cons hy hY => ?_
    refine Prs.cons ?_ (al_prs hU hX hY)
    have mx := hx.mk hU
    have my := hy.mk hU
    obtain ⟨a, d, xb, xe, xs, xp, rfl, ha, _⟩ := id mx
    obtain ⟨a2, d2, xb2, xe2, xs2, xp2, rfl, ha2, _⟩ := id my
    exact ⟨a, a2, _, _, _, _, rfl, rfl, ha, ha2, _, mx, my⟩
theorem mon_mk {CM : Addr} : Mon (DIns CM (RMk CM C)) := mon_ins fun a b H H' e h => by
  obtain ⟨m, h1, h2⟩ := h
  exact ⟨m, h1.ex e, h2.ex e⟩
theorem sm_U {c : Int} (c1 : 1 ≤ c) (c2 : c ≤ 10417) : 0 < c * 46656 * 1000003 ∧ Sm 60 (c * 46656 * 1000003) := by
  refine ⟨by omega, ?_⟩
  unfold Sm
  omega

abbrev sLn : Stmt := inClass (top 96) 4
theorem scLn : FnScope ["self"] ["self"] (defScope sLn) := ⟨rfl, rfl, rfl, by decide +kernel, rfl, by decide +kernel, by decide +kernel⟩
def spLn (CT CM C : Addr) : Sp := fun vs H Q _ => ∃ (U z : Int) (L : List Row) (x : V), vs = [x] ∧ TuA CT CM C U z L x H ∧ Q (.int (L.length : Nat)) H
theorem ok_len {CT CM f : Addr} {fd : FuncData} (F : Fun K "__len__" "Tune.__len__" sLn f fd) (T : Txt K mg C) (TU' : TxtU K mg CT) : FnOk P w K mg base CX0 1 f fd ["self"] (spLn CT CM C) := by
  refine F.ok scLn (fun vs H Q E h => ?_) (fun cdv A outer s H vs Q E hr h => ?_)
  · obtain ⟨U, z, L, x, rfl, _⟩ := h
    rfl
  · obtain ⟨U, z, L, x, rfl, hT, k⟩ := h
    obtain ⟨a, dx, pm, xs, rfl, ha, hpm, hx⟩ := hT
    refine ⟨_, (pss_one (ps_ret (pe_callB call_len rfl T.len PySem.boot_len (pa_cons (pe_fld (pv 0) rfl) pa_nil)))), ?_⟩
    refine ⟨_, rfl, a, CT, dx, _, _, rfl, ha, TU'.cl, TU'.aM, tF_marks, _, _, rfl, .inl ⟨xs, SqL.of hpm, rfl⟩, ?_⟩
    rw [hx.len]
    exact k
abbrev sIi : Stmt := top 125
theorem scIi : FnScope ["_law_actual"] ["_law_actual"] (defScope sIi) := ⟨rfl, rfl, rfl, by decide +kernel, rfl, by decide +kernel, by decide +kernel⟩
theorem ok_isint {f : Addr} {fd : FuncData} (F : Fun K "_law_is_int" "_law_is_int" sIi f fd) (T : Txt K mg C) : FnOk P w K mg base CX0 1 f fd ["_law_actual"] spIsInt := by
  refine F.ok scIi (fun vs H Q E h => ?_) (fun cdv A outer s H vs Q E hr h => ?_)
  · obtain ⟨a, rfl, _⟩ := h
    rfl
  · obtain ⟨a, rfl, k⟩ := h
    refine ⟨_, (pss_one (ps_ret (pe_and (pe_callB (r := rIsi K) call_isi rfl T.isi PyProof.Rows.boot_isinstance (pa_cons (pv 0) (pa_cons (pe_bltn (v := .ty "int") rfl T.int PyProof.Rows.boot_int rfl) pa_nil))) (pe_one (pe_not (pe_callB (r := rIsi K) call_isi rfl T.isi PyProof.Rows.boot_isinstance (pa_cons (pv 0) (pa_cons (pe_bltn (v := .ty "bool") rfl T.bool PyProof.Rows.boot_bool rfl) pa_nil)))))))), ?_⟩
    refine ⟨_, rfl, _, _, _, _, true, rfl, .ty "int", .base (.int a), kit_ty (by decide +kernel), true, rfl, iteT ?_⟩
    exact ⟨_, rfl, _, _, _, _, false, rfl, .ty "bool", .base (.int a), kit_ty (by decide +kernel), false, rfl, k _ (Ex.refl _)⟩
/-! ### the law -/
abbrev sLaw : Stmt := top 129
theorem scLaw : FnScope ["_law_script", "_law_row_here", "_law_unit_here", "_law_fill_here", "_law_marks_here", "_law_tune_here", "_law_held_here", "_law_one_here"] ["_law_script"] (defScope sLaw) := ⟨rfl, rfl, rfl, by decide +kernel, rfl, by decide +kernel, by decide +kernel⟩
theorem ok_law {CT CM CR fT f fLn fKe : Addr} {fd fdT fdLn fdKe : FuncData} (F : Fun K "law" "law" sLaw f fd) (T : Txt K mg C) (TU' : TxtU K mg CT) (MkT : Mk K CT fT) (GT : FnOk P w K mg base (L2.CX P w) (4 + 15) fT fdT ["self", "rounds", "marks"] (spTu CT CM C CR 4)) (bT : Binds K fdT ["self", "rounds", "marks"] [])
    (OC : Ok P w K mg base CX0 1 "_law_cell" ["_law_script", "_law_k"] (spCell K)) (OO : Ok P w K mg base CX0 1 "_law_row" ["_law_cell_here", "_law_sizes"] (spRow K)) (OU : Ok P w K mg base CX0 1 "_law_unit" ["_law_draw"] spUt) (OF : Ok P w K mg base CX0 3 "_law_fill" ["_law_row_here", "_law_at", "_law_most", "_law_count", "_law_unit_here"] (spFi K)) (OS : Ok P w K mg base CX0 1 "_law_fill_sizes" ["_law_count"] spSz) (ORp : Ok P w K mg base CX0 2 "_law_repeated" ["_law_fill_here", "_law_count", "_law_unit_here"] spRp)
    (OK : Ok P w K mg base CX0 11 "_law_marks" ["_law_rows", "_law_unit_here"] (spLk CM C)) (OLs : Ok P w K mg base CX0 5 "_law_least" ["_law_fill_here", "_law_unit_here"] spLs) (OIi : Ok P w K mg base CX0 1 "_law_is_int" ["_law_actual"] spIsInt) (OTs : Ok P w K mg base CX0 3 "_law_tune_set" ["_law_fill_here", "_law_t", "_law_side", "_law_unit_here"] spTs) (OIm : Ok P w K mg base CX0 1 "_law_is_marks" ["_law_actual"] (spIm CM C)) (OIr : Ok P w K mg base CX0 2 "_law_in_order" ["_law_marks_here"] (spIr CM C)) (OHd : Ok P w K mg base CX0 3 "_law_held" ["_law_tune_here", "_law_unit_here"] (spHd CT CM C)) (OAk : Ok P w K mg base CX0 4 "_law_alike" ["_law_one_here", "_law_two", "_law_unit_here"] spAk)
    (hLn : PySem.W.findIn K (.ref CT) "__len__" = some (some (.ref fLn)) ∧ PySem.W.isFn K (.ref fLn) = true) (GLn : FnOk P w K mg base CX0 1 fLn fdLn ["self"] (spLn CT CM C)) (bLn : Binds K fdLn ["self"] [])
    (hKe : PySem.W.findIn K (.ref CM) "__eq__" = some (some (.ref fKe)) ∧ PySem.W.isFn K (.ref fKe) = true) (GKe : FnOk P w K mg base CX0 4 fKe fdKe ["self", "other"] (spKEq2 CM C)) (bKe : Binds K fdKe ["self", "other"] []) : FnOk P w K mg base CX0 (4 + 17) f fd ["_law_script"] (spLaw K) := by
  obtain ⟨fCe, fdCe, GCe, mCe, kCe, bCe⟩ := OC
  obtain ⟨fRo, fdRo, GRo, mRo, kRo, bRo⟩ := OO
  obtain ⟨fUt, fdUt, GUt, mUt, kUt, bUt⟩ := OU
  obtain ⟨fFi, fdFi, GFi, mFi, kFi, bFi⟩ := OF
  obtain ⟨fSz, fdSz, GSz, mSz, kSz, bSz⟩ := OS
  obtain ⟨fRp, fdRp, GRp, mRp, kRp, bRp⟩ := ORp
  obtain ⟨fLk, fdLk, GLk, mLk, kLk, bLk⟩ := OK
  obtain ⟨fLs, fdLs, GLs, mLs, kLs, bLs⟩ := OLs
  obtain ⟨fIi, fdIi, GIi, mIi, kIi, bIi⟩ := OIi
  obtain ⟨fTs, fdTs, GTs, mTs, kTs, bTs⟩ := OTs
  obtain ⟨fIm, fdIm, GIm, mIm, kIm, bIm⟩ := OIm
  obtain ⟨fIr, fdIr, GIr, mIr, kIr, bIr⟩ := OIr
  obtain ⟨fHd, fdHd, GHd, mHd, kHd, bHd⟩ := OHd
  obtain ⟨fAk, fdAk, GAk, mAk, kAk, bAk⟩ := OAk
  refine F.ok scLaw (fun vs H Q E h => ?_) (fun cdv A outer s H vs Q E hr h => ?_)
  · obtain ⟨a, ns, rfl, _⟩ := h
    rfl
  · obtain ⟨l, ns, rfl, hS, hlen, hQ⟩ := h
    let X := (cxOf CX0 P w K mg base ["_law_script", "_law_row_here", "_law_unit_here", "_law_fill_here", "_law_marks_here", "_law_tune_here", "_law_held_here", "_law_one_here"] "law" (defScope sLaw) f cdv A outer s H E).nox
    have h1 : Room 1 X.A := hr.mono (by decide)
    have h2 : Room 2 X.A := hr.mono (by decide)
    have h3 : Room 3 X.A := hr.mono (by decide)
    have h4 : Room 4 X.A := hr.mono (by decide)
    have h5' : Room 5 X.A := hr.mono (by decide)
    have h11 : Room 11 X.A := hr.mono (by decide)
    have hT : Room (4 + 15 + 1) X.A := hr.mono (by decide)
    have h5 := h5'
    have oLen := call_lenO (X := X) (C := CT) (E := E0) hLn.1 hLn.2 GLn (hr.mono (by decide)) bLn pass0
    have oNe := op_neGL (X := X) (D := DIns CM (RMk CM C)) (n := 4) mon_mk (eqG_ins (X := X) (E := E0) (GKe.imp keq_imp) hKe.1 hKe.2 bKe pass0) (hr.mono (by decide))
    refine ⟨_, (pss_cons (ps_set (i := 1) scLaw.nd rfl (Or.inl rfl) (pe_call GRo (hr.mono (by decide)) rfl mRo kRo bRo .nil pass0 (pa_cons (pe_call GCe (hr.mono (by decide)) rfl mCe kCe bCe .nil pass0 (pa_cons (pv 0) (pa_cons pe_int pa_nil))) (pa_cons (pe_lst (pa_cons pe_int (pa_cons pe_int (pa_cons pe_int pa_nil)))) pa_nil))))
 (pss_cons (ps_set (i := 2) scLaw.nd rfl (Or.inl rfl) (pe_call GUt h1 rfl mUt kUt bUt .nil pass0 (pa_cons (pe_ix ix_list (pv 1) pe_int (fun _ _ => rfl)) pa_nil)))
 (pss_cons (ps_set (i := 3) scLaw.nd rfl (Or.inl rfl) (pe_call GFi h3 rfl mFi kFi bFi .nil pass0 (pa_cons (pe_call GRo (hr.mono (by decide)) rfl mRo kRo bRo .nil pass0 (pa_cons (pe_call GCe (hr.mono (by decide)) rfl mCe kCe bCe .nil pass0 (pa_cons (pv 0) (pa_cons pe_int pa_nil))) (pa_cons (pe_call GSz h1 rfl mSz kSz bSz .nil pass0 (pa_cons pe_int pa_nil)) pa_nil))) (pa_cons pe_int (pa_cons pe_int (pa_cons pe_int (pa_cons (pv 2) pa_nil)))))))
 (Evl.pss_cut (ps_if (pt_cmpR op_eq (pe_ix ix_list (pv 1) pe_int (fun _ _ => rfl)) pe_int (nomark _)) (pss_one (ps_set (i := 3) scLaw.nd rfl (Or.inl rfl) (pe_call GRp h2 rfl mRp kRp bRp .nil pass0 (pa_cons (pv 3) (pa_cons (pe_op op_add pe_int (pe_ix ix_list (pv 1) pe_int (fun _ _ => rfl))) (pa_cons (pv 2) pa_nil)))))) pss_nil)
 (pss_cons (ps_set (i := 4) scLaw.nd rfl (Or.inl rfl) (pe_call GLk h11 rfl mLk kLk bLk .nil pass0 (pa_cons (pe_ix ix_tup (pv 3) pe_int (fun _ _ => rfl)) (pa_cons (pv 2) pa_nil))))
 (pss_cons (ps_set (i := 5) scLaw.nd rfl (Or.inl rfl) (pe_make MkT GT hT rfl TU'.mgT bT .nil passL (pa_cons (pe_ix ix_tup (pv 3) pe_int (fun _ _ => rfl)) (pa_cons (pv 4) pa_nil))))
 (pss_cons (ps_if (pt_cmpR oNe (pv 4) (pe_call GLk h11 rfl mLk kLk bLk .nil pass0 (pa_cons (pe_ix ix_tup (pv 3) pe_int (fun _ _ => rfl)) (pa_cons (pv 2) pa_nil))) (nomark _)) (pss_one (ps_ret pe_bl)) pss_nil)
 (pss_cons (ps_expr (pe_bm0 PySem.F.plainAttrs_list PySem.F.slot_list_clear PySem.F.type_list_clear mt_clear (pv 4)))
 (pss_cons (ps_if (PW.pt (pw_or (pt_not (pt_val (pe_call GIi h1 rfl mIi kIi bIi .nil pass0 (pa_cons (pe_fld (pv 5) rfl) pa_nil)))) (pw_or1 (pt_cmpR op_ne (pe_fld (pv 5) rfl) (pe_call GLs h5 rfl mLs kLs bLs .nil pass0 (pa_cons (pv 3) (pa_cons (pv 2) pa_nil))) (nomark _))))) (pss_one (ps_ret pe_bl)) pss_nil)
 (pss_cons (ps_if (PW.pt (pw_or (pt_not (pt_val (pe_call GIm h1 rfl mIm kIm bIm .nil pass0 (pa_cons (pe_fld (pv 5) rfl) pa_nil)))) (pw_or (pt_not (pt_val (pe_call GIr h2 rfl mIr kIr bIr .nil pass0 (pa_cons (pe_fld (pv 5) rfl) pa_nil)))) (pw_or1 (pt_cmpR op_ne (pe_callB oLen rfl T.len PySem.boot_len (pa_cons (pv 5) pa_nil)) (pe_callB call_len rfl T.len PySem.boot_len (pa_cons (pe_fld (pv 5) rfl) pa_nil)) (nomark _)))))) (pss_one (ps_ret pe_bl)) pss_nil)
 (pss_cons (ps_set (i := 6) scLaw.nd rfl (Or.inl rfl) (pe_call GHd h3 rfl mHd kHd bHd .nil pass0 (pa_cons (pv 5) (pa_cons (pv 2) pa_nil))))
 (pss_cons (ps_for PassesOwn.never rfl (pi_list (pe_ix ix_tup (pv 6) pe_int (fun _ _ => rfl))) (pg_name (i := 7) scLaw.nd rfl (Or.inl rfl)) (pss_cons (ps_if (PW.pt (pw_or (pt_cmpR op_in_seq pe_non (pv 7) (by rfl)) (pw_or (pt_cmpR op_lt (pe_ix ix_tup (pv 7) pe_int (fun _ _ => rfl)) pe_int (nomark _)) (pw_or1 (pt_cmpR op_ge (pe_ix ix_tup (pv 7) pe_int (fun _ _ => rfl)) (pe_op op_mulW (pe_fld (pv 5) rfl) (pv 2)) (nomark _)))))) (pss_one (ps_ret pe_bl)) pss_nil)
 (pss_one (ps_if (PW.pt (pw_or (pt_cmpR (op_inD (hu65 hr)) (pe_slice sl_tup (pv 7) po_none (po_some pe_int)) (pe_call GTs h3 rfl mTs kTs bTs .nil pass0 (pa_cons (pv 3) (pa_cons (pe_ix ix_tup (pv 7) pe_int (fun _ _ => rfl)) (pa_cons (pe_un un_neg pe_int) (pa_cons (pv 2) pa_nil))))) (by rfl)) (pw_or1 (pt_cmpR (op_inD (hu65 hr)) (pe_slice sl_tup (pv 7) po_none (po_some pe_int)) (pe_call GTs h3 rfl mTs kTs bTs .nil pass0 (pa_cons (pv 3) (pa_cons (pe_ix ix_tup (pv 7) pe_int (fun _ _ => rfl)) (pa_cons pe_int (pa_cons (pv 2) pa_nil))))) (by rfl))))) (pss_one (ps_ret pe_bl)) pss_nil))))
 (pss_one (ps_ret (pe_call GAk h4 rfl mAk kAk bAk .nil pass0 (pa_cons (pv 3) (pa_cons (pv 6) (pa_cons (pv 2) pa_nil)))))))))))))))))), ?_⟩
    refine ⟨_, rfl, l, ns, 1, rfl, hS, by decide, hlen, fun z1 => ⟨(by show 3 ≤ sizeLine; decide), fun q hq => ⟨z1, q, [2, 2, 41668], rfl, SqL.of upd_same, by decide, by decide +kernel, fun p ys H1 e1 hrow len hb => ?_⟩⟩⟩
    have hS1 := (hS.ex' (Ex.new hq)).ex' e1
    have cell : ∀ (i : Nat) (b : Int), [(2 : Int), 2, 41668][i]? = some b → ∃ y, ys[i]? = some y ∧ 0 ≤ y ∧ y < b := fun i b hi => by
      have hl : i < ys.length := by
        rw [len]
        exact (List.getElem?_eq_some_iff.mp hi).1
      exact ⟨ys[i], List.getElem?_eq_getElem hl, hb i _ _ (List.getElem?_eq_getElem hl) hi⟩
    have cat : ∀ {i : Nat} {y : Int}, ys[i]? = some y → atI (ys.map V.int) (i : Nat) = some (.int y) := fun e => atI_nat (by rw [List.getElem?_map, e]; rfl)
    obtain ⟨y0, g0, l0, u0⟩ := cell 0 _ rfl
    obtain ⟨y1, g1, l1, u1⟩ := cell 1 _ rfl
    obtain ⟨y2, g2, l2, u2⟩ := cell 2 _ rfl
    refine ⟨_, rfl, p, _, _, _, rfl, rfl, SqL.of hrow, cat g2, y2, rfl, l2, u2, fun c c1 c2 => ?_⟩
    obtain ⟨hU, sU⟩ := sm_U c1 c2
    have UU : Un (c * 46656 * 1000003) := ⟨hU, sU.mono (by decide)⟩
    refine ⟨_, rfl, l, ns, 0, rfl, hS1, by decide, hlen, fun z0 => ⟨2, rfl, by decide, fun p2 H2 e2 hp2 => ⟨z0, p2, fsz 2, rfl, SqL.of hp2, by decide, by decide +kernel, fun p3 ys3 H3 e3 hrow3 len3 hb3 => ?_⟩⟩⟩
    have C3 : Cells ys3 0 (fsz 2) := ⟨fun i b hi => by
      have hl : i < ys3.length := by
        rw [len3]
        exact (List.getElem?_eq_some_iff.mp hi).1
      rw [Nat.zero_add]
      exact ⟨ys3[i], List.getElem?_eq_getElem hl, hb3 i _ _ (List.getElem?_eq_getElem hl) hi⟩⟩
    refine ⟨_, rfl, p3, ys3, 0, 3, 2, c, rfl, SqL.of hrow3, C3, by decide, by decide, by decide, c1, c2, fun z L v H4 z1' z2' l4 hL e4 hF => ?_⟩
    have hrow4 := (SqL.of (K := K) hrow).ex' (e2.trans (e3.trans e4))
    have bU : c * 46656 * 1000003 ≤ 1000000000000000 := by omega
    generalize hUg : c * 46656 * 1000003 = U at *
    have d20 : Dsc U 20 z L := ⟨fun r hr => (hL r hr).1.mono (by decide), fun r hr => (hL r hr).2.1.mono (Int.le_of_lt hU) (by decide), z1', by omega, by omega⟩
    refine ⟨fun σ H' => ∃ (z : Int) (L : List (List Int)) (v : V), σ = [some (.ref l), some (.ref p), some (.int U), some v, none, none, none, none] ∧ FiR z L v H' ∧ Dsc U 50 z L ∧ z ≤ 9 ∧ L.length ≤ 6, ?_, ?_⟩
    · refine ⟨_, rfl, p, _, _, _, rfl, rfl, hrow4, cat g0, rfl, _, rfl, ite2 (fun w => ?_) (fun w => ?_)⟩
      · obtain ⟨m, hm⟩ : ∃ m : Nat, 2 + y1 = (m : Nat) := ⟨(2 + y1).toNat, by omega⟩
        refine ⟨_, rfl, _, rfl, p, _, _, _, rfl, rfl, hrow4, cat g1, _, _, rfl, rfl, _, rfl, U, z, m, L, v, (show [v, V.int (2 + y1), V.int U] = [v, V.int (m : Nat), V.int U] by rw [hm]), hF, d20, z2', l4, by omega, by omega, hU, sU, fun L2 v' H5 e5 hF2 d2 l6 => ?_⟩
        have := Int.mul_le_mul_of_nonneg_right z2' (show (0 : Int) ≤ m by omega)
        exact ⟨_, L2, v', rfl, hF2, d2, by omega, l6⟩
      · exact ⟨z, L, v, rfl, hF, d20.mono (Int.le_of_lt hU) (by decide), by omega, by omega⟩
    rintro σ H5 ⟨z, L, v, rfl, hF, d, z9, l6⟩
    obtain ⟨pF, aF, vF, rfl, hpF, haF, hAF⟩ := id hF
    have z1 := d.z1
    have sz : Sm 10 z := by unfold Sm; omega
    have s390 : Sm 390 U := sU.mono (by decide)
    have r5 := lrow5 d.row
    have rS : ∀ r ∈ L.map lrow, SmR 380 r := fun r hr => by
      obtain ⟨w, hw, rfl⟩ := List.mem_map.mp hr
      exact fun x hx => ((d.row w hw).sm x hx).mono (by decide)
    refine ⟨_, rfl, pF, _, _, _, rfl, rfl, SqT.of hpF, at1, _, rfl, U, L, _, rfl, UU, ⟨aF, vF, rfl, haF, hAF⟩, d.row, by omega, fun pm0 zs H6 e6 npm hpm hz => ?_⟩
    refine ⟨_, rfl, pF, _, _, _, rfl, rfl, SqT.of (e6 _ _ hpF), at0, _, rfl, fun x dx f1 f2 f3 => ?_⟩
    refine tune_rdP (U := U) (L := L.map lrow) z1 UU hpm hz r5 rS (by rw [List.length_map]; show L.length ≤ 16; omega) ((sz.mul sU).mono (by decide)) (sz.mono (by decide)) f1 f2 f3 fun z' L' pt H7 hTo e7 npt ht => ⟨rfl, ?_⟩
    obtain ⟨w1, w2, w3, dH⟩ := hTo.dsc hU sU d z9 l6
    obtain ⟨_, NF1, shw⟩ := hTo.nf hU (by omega) r5
    have bd := hTo.bd hU (by omega) r5
    have r5' := hTo.row5 hU r5
    obtain ⟨dv, per⟩ := hTo.rounds hU (by omega) r5
    have ne0 : pt ≠ pm0 := (ne_of_none hpm npt).symm
    refine ⟨_, rfl, _, rfl, pF, _, _, _, rfl, rfl, SqT.of ((e6.trans e7) _ _ hpF), at1, _, rfl, U, L, _, rfl, UU, LoI.ex ⟨aF, vF, rfl, haF, hAF⟩ (e6.trans e7), d.row, by omega, fun pb zb H8 e8 _ hpb hzb => ?_⟩
    refine ⟨⟨pm0, pb, zs, zb, rfl, rfl, (e7.trans e8) _ _ hpm, hpb, al_prs hU (hz.map fun r v h => h.ex (e7.trans e8)) hzb⟩, fun H9 e9 => ?_⟩
    have e9 : Ex H8 H9 := e9
    refine ⟨_, rfl, iteB rfl ?_⟩
    have hpm9 := (e7.trans (e8.trans e9)) _ _ hpm
    refine ⟨_, rfl, .inl ⟨rfl, _, SqL.of hpm9⟩, pm0, zs, rfl, rfl, hpm9, ?_⟩
    have ht10 := (ht.ex (e8.trans e9)).put (zs := []) hpm9 ne0
    have e510 : Ex H5 (upd H9 pm0 (.lst [])) := Evl.Ex.mut (e6.trans (e7.trans (e8.trans e9))) npm
    generalize upd H9 pm0 (.lst []) = H10 at *
    obtain ⟨aT, dxT, xsT, ex, haT, hptT, hxT⟩ := id ht10
    cases ex
    have hF10 := hF.ex e510
    refine ⟨_, rfl, x, CT, dxT, _, _, rfl, haT, TU'.cl, TU'.aR, tF_rounds, z', rfl, fun H11 e11 => ?_⟩
    refine ⟨_, rfl, iteB rfl ?_⟩
    refine ⟨_, rfl, x, CT, dxT, _, _, rfl, e11 _ _ haT, TU'.cl, TU'.aR, tF_rounds, _, rfl, _, rfl, U, z, L, _, rfl, hF10.ex e11, d.mono (Int.le_of_lt hU) (by decide), hU, sU, fun q H12 e12 q1 q2 q3 q4 q5 => ?_⟩
    have eq : q = z' := by
      have a1 := hTo.least hU (by omega) r5 (by omega) q4
      have a2 := Int.le_of_dvd (by omega) a1
      rcases Int.lt_or_eq_of_le a2 with w | w
      · exact absurd per (q5 z' (by omega) w dv)
      · exact w.symm
    subst eq
    refine ⟨rfl, _, rfl, iteB (by simp) ?_⟩
    have e12' := e11.trans e12
    refine ⟨_, rfl, x, CT, dxT, _, _, rfl, e12' _ _ haT, TU'.cl, TU'.aM, tF_marks, U, L', pt, xsT, rfl, e12' _ _ hptT, hxT.map fun r v h => h.ex e12', fun H13 e13 => ?_⟩
    refine ⟨_, rfl, iteB rfl ?_⟩
    have e13' := e12'.trans e13
    refine ⟨_, rfl, x, CT, dxT, _, _, rfl, e13' _ _ haT, TU'.cl, TU'.aM, tF_marks, U, L', pt, xsT, rfl, e13' _ _ hptT, hxT.map fun r v h => h.ex e13', hU, s390, by omega, hTo.strict hU (by omega) r5, fun H14 e14 => ?_⟩
    refine ⟨_, rfl, iteB rfl ?_⟩
    have e14' := e13'.trans e14
    have ht14 := ht10.ex e14'
    refine ⟨_, rfl, _, rfl, ⟨x, dxT, _, rfl, e14' _ _ haT⟩, U, q, L', _, rfl, ht14.tu, L'.length, rfl, by omega, ?_⟩
    refine ⟨_, rfl, x, CT, dxT, _, _, rfl, e14' _ _ haT, TU'.cl, TU'.aM, tF_marks, _, _, rfl, .inl ⟨xsT, SqL.of (e14' _ _ hptT), rfl⟩, rfl, _, rfl, iteB (by rw [hxT.len]; simp) ?_⟩
    refine ⟨_, rfl, _, rfl, U, q, L', _, rfl, ht14.tu, hU, s390, by omega, fun vh H15 e15 hFh => ?_⟩
    obtain ⟨ph, ah, vsh, rfl, hph, hah, hAh⟩ := id hFh
    have e15' := e14'.trans e15
    have hF15 := hF10.ex e15'
    refine ⟨_, rfl, ph, _, _, _, rfl, rfl, SqT.of hph, at1, ah, rfl, ⟨_, SqL.of hah⟩, for_list (K := K) (a := ah) (xs := vsh) (fun i σ H' => ∃ w7, σ = [some (.ref l), some (.ref p), some (.int U), some (.ref pF), some (.ref pm0), some (.ref x), some (.ref ph), w7] ∧ Ex H15 H')
      ⟨none, rfl, Ex.refl _⟩ (fun i σ H' _ ⟨_, _, e⟩ => SqL.of (e _ _ hah)) ?_ ?_⟩
    · rintro i y σ H16 hi ⟨w7, rfl, e16⟩
      obtain ⟨w, hw, hy⟩ := hAh.getV hi
      obtain ⟨r, hr1, rfl⟩ := List.mem_map.mp (List.mem_of_getElem? hw)
      obtain ⟨b0, b1⟩ := bd r hr1
      obtain ⟨s, pp, b, e, k, rfl, o1, o2, o3⟩ := r5' r hr1
      have b0 : 0 ≤ s := b0
      have b1 : s < q * U := b1
      have lb := (dH.near _ (List.mem_map.mpr ⟨_, hr1, rfl⟩))
      have lb1 : -(200 * U) ≤ b := lb.1
      have lb2 : e ≤ 200 * U := lb.2
      have own : Ob (q * U) L' [s, pp, b, e, k] := ⟨_, hr1, 0, by rw [Int.mul_zero, mv_zero ⟨s, pp, b, e, k, rfl, o1, o2, o3⟩]⟩
      obtain ⟨no1, no2⟩ := NF1.ends own
      obtain ⟨qo, rfl, hqo⟩ := hy.ex e16
      have e16' := e15'.trans e16
      refine ⟨_, rfl, qo, _, rfl, .inr (SqT.of hqo), rfl, rfl, _, rfl, iteB rfl ?_⟩
      refine ⟨_, rfl, qo, _, _, _, rfl, rfl, SqT.of hqo, atI_nat (j := 3) rfl, _, _, rfl, rfl, _, rfl, iteB (decide_eq_false (by omega)) ?_⟩
      refine ⟨_, rfl, qo, _, _, _, rfl, rfl, SqT.of hqo, atI_nat (j := 3) rfl, _, rfl, x, CT, dxT, _, _, rfl, e16' _ _ haT, TU'.cl, TU'.aR, tF_rounds, _, rfl, _, _, rfl, rfl, Sm.cmul (k := 10) (j := 60) (by unfold Sm; omega) sU, _, _, rfl, rfl, _, rfl, iteB (decide_eq_false (by omega)) ?_⟩
      refine ⟨_, rfl, _, rfl, qo, _, rfl, SqT.of hqo, fun w => absurd w.2 (show ¬ HT.sIx 5 5 (some 3) = 5 by decide), fun p3 np3 => ?_⟩
      have x3 : Ex H16 (upd H16 p3 (.tup ([k, b, e].map V.int))) := Ex.new np3
      have hk3 : TuI [k, b, e] (.ref p3) (upd H16 p3 (.tup ([k, b, e].map V.int))) := ⟨p3, rfl, upd_same⟩
      show tCall spTs [] E0 _ _ (upd H16 p3 (.tup ([k, b, e].map V.int))) _
      generalize upd H16 p3 (.tup ([k, b, e].map V.int)) = H17 at *
      refine ⟨_, rfl, _, rfl, qo, _, _, _, rfl, rfl, SqT.of (x3 _ _ hqo), atI_nat (j := 3) rfl, _, rfl, _, rfl, U, z, s, -1, L, _, rfl, .inr rfl, hF10.ex (e16'.trans x3), fun r hr => ⟨d.row r hr, (d.near r hr).mono (Int.le_of_lt hU) (by decide)⟩, z1, by omega, hU, sU, by omega, by omega, by omega, fun M1 v1 H18 hM1 _ _ _ e18 hv1 => ?_⟩
      refine in_rd (hk3.ex e18) hv1 ⟨_, rfl, iteB (decide_eq_false fun hm => no1 (shw.mpr ((hM1 _ _ _).mp hm))) ?_⟩
      have x18 := x3.trans e18
      refine ⟨_, rfl, _, rfl, qo, _, rfl, SqT.of (x18 _ _ hqo), fun w => absurd w.2 (show ¬ HT.sIx 5 5 (some 3) = 5 by decide), fun p4 np4 => ?_⟩
      have x4 : Ex H18 (upd H18 p4 (.tup ([k, b, e].map V.int))) := Ex.new np4
      have hk4 : TuI [k, b, e] (.ref p4) (upd H18 p4 (.tup ([k, b, e].map V.int))) := ⟨p4, rfl, upd_same⟩
      show tCall spTs [] E0 _ _ (upd H18 p4 (.tup ([k, b, e].map V.int))) _
      generalize upd H18 p4 (.tup ([k, b, e].map V.int)) = H19 at *
      refine ⟨_, rfl, _, rfl, qo, _, _, _, rfl, rfl, SqT.of ((x18.trans x4) _ _ hqo), atI_nat (j := 4) rfl, _, rfl, U, z, pp, 1, L, _, rfl, .inl rfl, hF10.ex (e16'.trans (x18.trans x4)), fun r hr => ⟨d.row r hr, (d.near r hr).mono (Int.le_of_lt hU) (by decide)⟩, z1, by omega, hU, sU, by omega, by omega, by omega, fun M2 v2 H20 hM2 _ _ _ e20 hv2 => ?_⟩
      exact in_rd (hk4.ex e20) hv2 ⟨_, rfl, iteB (decide_eq_false fun hm => no2 (shw.mpr ((hM2 _ _ _).mp hm))) ⟨_, rfl, e16.trans (x18.trans (x4.trans e20))⟩⟩
    · rintro σ H16 ⟨w7, rfl, e16⟩
      have e16' := e15'.trans e16
      refine ⟨_, rfl, _, rfl, _, rfl, U, z, q, L, L'.map hld, _, _, rfl, hF10.ex e16', hFh.ex e16, d.mono (Int.le_of_lt hU) (by decide), dH.mono (Int.le_of_lt hU) (by decide), hU, sU, fun cc H17 e17 hcc => ?_⟩
      obtain rfl : cc = true := hcc.mpr fun t b e k => by rw [lrow_hld r5', shw]
      exact hQ _
theorem hdFacts {P : Program} {w : World} {K : PySem.W.Frag} {h : Heap} {mg : Str → Option Value} {f : Addr} (X : K.In h) (G : h.Ns mainGlobals mg) (hfa : mg ("law" : Str) = some (.ref f)) (c : SaysS fas fns fxs sts K) :
    ∃ fd : FuncData, (∀ (s : Shared) (v : Value), BindsTo s fd ⟨[v], []⟩ [("_law_script", v)]) ∧ ∀ base : Heap, K.In base → base.Ns mainGlobals mg → FnOk P w K mg base CX0 21 f fd ["_law_script"] (spLaw K) := by
  obtain ⟨fdCe, FCe⟩ : ∃ fd, Fun K "_law_cell" "_law_cell" sCe (He.ga K "_law_cell") fd := (c.def_ 0 (d := dG "_law_cell" (top 102)) rfl).imp fun _ F => fun_of F
  have gCe : mg "_law_cell" = some (.ref (He.ga K "_law_cell")) := He.glo_ok X G (c.fact 1 (f := .glo "_law_cell") rfl)
  have bCe := FCe.binds (ps := ["_law_script", "_law_k"]) fun _ _ _ _ _ _ us hl => match us, hl with | [_, _], _ => rfl
  obtain ⟨fdGc, FGc⟩ : ∃ fd, Fun K "_law_gcd" "_law_gcd" sGc (He.ga K "_law_gcd") fd := (c.def_ 1 (d := dG "_law_gcd" (top 116)) rfl).imp fun _ F => fun_of F
  have gGc : mg "_law_gcd" = some (.ref (He.ga K "_law_gcd")) := He.glo_ok X G (c.fact 2 (f := .glo "_law_gcd") rfl)
  have bGc := FGc.binds (ps := ["_law_a", "_law_b"]) fun _ _ _ _ _ _ us hl => match us, hl with | [_, _], _ => rfl
  obtain ⟨fdKp, FKp⟩ : ∃ fd, Fun K "_kept" "_kept" sKp (He.ga K "_kept") fd := (c.def_ 2 (d := dG "_kept" (top 3)) rfl).imp fun _ F => fun_of F
  have gKp : mg "_kept" = some (.ref (He.ga K "_kept")) := He.glo_ok X G (c.fact 3 (f := .glo "_kept") rfl)
  have bKp := FKp.binds (ps := ["value"]) fun _ _ _ _ _ _ us hl => match us, hl with | [_], _ => rfl
  have mNM : Meth K (He.ga K "NoMoment") "__init__" (He.ma K (He.ga K "NoMoment") "__init__") := He.meth_ok (c.fact 4 (f := .meth "NoMoment" "__init__") rfl)
  obtain ⟨fdNM, FNM⟩ : ∃ fd, Fun K "__init__" "NoMoment.__init__" sNM (He.ma K (He.ga K "NoMoment") "__init__") fd := (c.def_ 3 (d := dM "NoMoment" "__init__" "NoMoment.__init__" (inClass (top 5) 0)) rfl).imp fun _ F => fun_of F
  have bNM := FNM.binds (ps := ["self", "top", "bottom"]) fun _ _ _ _ _ _ us hl => match us, hl with | [_, _, _], _ => rfl
  have mIn : Meth K (He.ga K "Moment") "__init__" (He.ma K (He.ga K "Moment") "__init__") := He.meth_ok (c.fact 5 (f := .meth "Moment" "__init__") rfl)
  obtain ⟨fdIn, FIn⟩ : ∃ fd, FunD K "__init__" "Moment.__init__" (defArgs sIn) (defBody sIn) (defScope sIn) [V.int 1] [] (He.ma K (He.ga K "Moment") "__init__") fd := c.def_ 4 (d := ⟨("Moment", some "__init__"), "__init__", "Moment.__init__", defArgs (inClass (top 14) 0), defBody (inClass (top 14) 0), defScope (inClass (top 14) 0), [.int 1], []⟩) rfl
  obtain ⟨fdIt, FIt⟩ : ∃ fd, Fun K "is_time" "is_time" sIt (He.ga K "is_time") fd := (c.def_ 5 (d := dG "is_time" (top 15)) rfl).imp fun _ F => fun_of F
  have gIt : mg "is_time" = some (.ref (He.ga K "is_time")) := He.glo_ok X G (c.fact 6 (f := .glo "is_time") rfl)
  have bIt := FIt.binds (ps := ["value"]) fun _ _ _ _ _ _ us hl => match us, hl with | [_], _ => rfl
  obtain ⟨fdAm, FAm⟩ : ∃ fd, Fun K "as_moment" "as_moment" sAm (He.ga K "as_moment") fd := (c.def_ 6 (d := dG "as_moment" (top 16)) rfl).imp fun _ F => fun_of F
  have gAm : mg "as_moment" = some (.ref (He.ga K "as_moment")) := He.glo_ok X G (c.fact 7 (f := .glo "as_moment") rfl)
  have bAm := FAm.binds (ps := ["time"]) fun _ _ _ _ _ _ us hl => match us, hl with | [_], _ => rfl
  have mEq : Meth K (He.ga K "Moment") "__eq__" (He.ma K (He.ga K "Moment") "__eq__") := He.meth_ok (c.fact 8 (f := .meth "Moment" "__eq__") rfl)
  obtain ⟨fdEq, FEq⟩ : ∃ fd, Fun K "__eq__" "Moment.__eq__" sEq (He.ma K (He.ga K "Moment") "__eq__") fd := (c.def_ 7 (d := dM "Moment" "__eq__" "Moment.__eq__" (inClass (top 14) 7)) rfl).imp fun _ F => fun_of F
  have bEq := FEq.binds (ps := ["self", "other"]) fun _ _ _ _ _ _ us hl => match us, hl with | [_, _], _ => rfl
  have mLt : Meth K (He.ga K "Moment") "__lt__" (He.ma K (He.ga K "Moment") "__lt__") := He.meth_ok (c.fact 9 (f := .meth "Moment" "__lt__") rfl)
  obtain ⟨fdLt, FLt⟩ : ∃ fd, Fun K "__lt__" "Moment.__lt__" sLt (He.ma K (He.ga K "Moment") "__lt__") fd := (c.def_ 8 (d := dM "Moment" "__lt__" "Moment.__lt__" (inClass (top 14) 8)) rfl).imp fun _ F => fun_of F
  have bLt := FLt.binds (ps := ["self", "other"]) fun _ _ _ _ _ _ us hl => match us, hl with | [_, _], _ => rfl
  have mLe : Meth K (He.ga K "Moment") "__le__" (He.ma K (He.ga K "Moment") "__le__") := He.meth_ok (c.fact 10 (f := .meth "Moment" "__le__") rfl)
  obtain ⟨fdLe, FLe⟩ : ∃ fd, Fun K "__le__" "Moment.__le__" sLe (He.ma K (He.ga K "Moment") "__le__") fd := (c.def_ 9 (d := dM "Moment" "__le__" "Moment.__le__" (inClass (top 14) 9)) rfl).imp fun _ F => fun_of F
  have bLe := FLe.binds (ps := ["self", "other"]) fun _ _ _ _ _ _ us hl => match us, hl with | [_, _], _ => rfl
  have mGt : Meth K (He.ga K "Moment") "__gt__" (He.ma K (He.ga K "Moment") "__gt__") := He.meth_ok (c.fact 11 (f := .meth "Moment" "__gt__") rfl)
  obtain ⟨fdGt, FGt⟩ : ∃ fd, Fun K "__gt__" "Moment.__gt__" sGt (He.ma K (He.ga K "Moment") "__gt__") fd := (c.def_ 10 (d := dM "Moment" "__gt__" "Moment.__gt__" (inClass (top 14) 10)) rfl).imp fun _ F => fun_of F
  have bGt := FGt.binds (ps := ["self", "other"]) fun _ _ _ _ _ _ us hl => match us, hl with | [_, _], _ => rfl
  have mGe : Meth K (He.ga K "Moment") "__ge__" (He.ma K (He.ga K "Moment") "__ge__") := He.meth_ok (c.fact 12 (f := .meth "Moment" "__ge__") rfl)
  obtain ⟨fdGe, FGe⟩ : ∃ fd, Fun K "__ge__" "Moment.__ge__" sGe (He.ma K (He.ga K "Moment") "__ge__") fd := (c.def_ 11 (d := dM "Moment" "__ge__" "Moment.__ge__" (inClass (top 14) 11)) rfl).imp fun _ F => fun_of F
  have bGe := FGe.binds (ps := ["self", "other"]) fun _ _ _ _ _ _ us hl => match us, hl with | [_, _], _ => rfl
  have mAdd : Meth K (He.ga K "Moment") "__add__" (He.ma K (He.ga K "Moment") "__add__") := He.meth_ok (c.fact 13 (f := .meth "Moment" "__add__") rfl)
  obtain ⟨fdAdd, FAdd⟩ : ∃ fd, Fun K "__add__" "Moment.__add__" sAdd (He.ma K (He.ga K "Moment") "__add__") fd := (c.def_ 12 (d := dM "Moment" "__add__" "Moment.__add__" (inClass (top 14) 12)) rfl).imp fun _ F => fun_of F
  have bAdd := FAdd.binds (ps := ["self", "other"]) fun _ _ _ _ _ _ us hl => match us, hl with | [_, _], _ => rfl
  have mRAdd : Meth K (He.ga K "Moment") "__radd__" (He.ma K (He.ga K "Moment") "__radd__") := He.meth_ok (c.fact 14 (f := .meth "Moment" "__radd__") rfl)
  have mSub : Meth K (He.ga K "Moment") "__sub__" (He.ma K (He.ga K "Moment") "__sub__") := He.meth_ok (c.fact 15 (f := .meth "Moment" "__sub__") rfl)
  obtain ⟨fdSub, FSub⟩ : ∃ fd, Fun K "__sub__" "Moment.__sub__" sSub (He.ma K (He.ga K "Moment") "__sub__") fd := (c.def_ 13 (d := dM "Moment" "__sub__" "Moment.__sub__" (inClass (top 14) 14)) rfl).imp fun _ F => fun_of F
  have bSub := FSub.binds (ps := ["self", "other"]) fun _ _ _ _ _ _ us hl => match us, hl with | [_, _], _ => rfl
  have mRSub : Meth K (He.ga K "Moment") "__rsub__" (He.ma K (He.ga K "Moment") "__rsub__") := He.meth_ok (c.fact 16 (f := .meth "Moment" "__rsub__") rfl)
  have mMul : Meth K (He.ga K "Moment") "__mul__" (He.ma K (He.ga K "Moment") "__mul__") := He.meth_ok (c.fact 17 (f := .meth "Moment" "__mul__") rfl)
  obtain ⟨fdMul, FMul⟩ : ∃ fd, Fun K "__mul__" "Moment.__mul__" sMul (He.ma K (He.ga K "Moment") "__mul__") fd := (c.def_ 14 (d := dM "Moment" "__mul__" "Moment.__mul__" (inClass (top 14) 16)) rfl).imp fun _ F => fun_of F
  have bMul := FMul.binds (ps := ["self", "other"]) fun _ _ _ _ _ _ us hl => match us, hl with | [_, _], _ => rfl
  have mRMul : Meth K (He.ga K "Moment") "__rmul__" (He.ma K (He.ga K "Moment") "__rmul__") := He.meth_ok (c.fact 18 (f := .meth "Moment" "__rmul__") rfl)
  have mFd : Meth K (He.ga K "Moment") "__floordiv__" (He.ma K (He.ga K "Moment") "__floordiv__") := He.meth_ok (c.fact 19 (f := .meth "Moment" "__floordiv__") rfl)
  obtain ⟨fdFd, FFd⟩ : ∃ fd, Fun K "__floordiv__" "Moment.__floordiv__" sFd (He.ma K (He.ga K "Moment") "__floordiv__") fd := (c.def_ 15 (d := dM "Moment" "__floordiv__" "Moment.__floordiv__" (inClass (top 14) 18)) rfl).imp fun _ F => fun_of F
  have bFd := FFd.binds (ps := ["self", "other"]) fun _ _ _ _ _ _ us hl => match us, hl with | [_, _], _ => rfl
  have mRFd : Meth K (He.ga K "Moment") "__rfloordiv__" (He.ma K (He.ga K "Moment") "__rfloordiv__") := He.meth_ok (c.fact 20 (f := .meth "Moment" "__rfloordiv__") rfl)
  have mMd : Meth K (He.ga K "Moment") "__mod__" (He.ma K (He.ga K "Moment") "__mod__") := He.meth_ok (c.fact 21 (f := .meth "Moment" "__mod__") rfl)
  obtain ⟨fdMd, FMd⟩ : ∃ fd, Fun K "__mod__" "Moment.__mod__" sMd (He.ma K (He.ga K "Moment") "__mod__") fd := (c.def_ 16 (d := dM "Moment" "__mod__" "Moment.__mod__" (inClass (top 14) 20)) rfl).imp fun _ F => fun_of F
  have bMd := FMd.binds (ps := ["self", "other"]) fun _ _ _ _ _ _ us hl => match us, hl with | [_, _], _ => rfl
  have mRMd : Meth K (He.ga K "Moment") "__rmod__" (He.ma K (He.ga K "Moment") "__rmod__") := He.meth_ok (c.fact 22 (f := .meth "Moment" "__rmod__") rfl)
  have mOv : Meth K (He.ga K "Moment") "over" (He.ma K (He.ga K "Moment") "over") := He.meth_ok (c.fact 23 (f := .meth "Moment" "over") rfl)
  obtain ⟨fdOv, FOv⟩ : ∃ fd, Fun K "over" "Moment.over" sOv (He.ma K (He.ga K "Moment") "over") fd := (c.def_ 17 (d := dM "Moment" "over" "Moment.over" (inClass (top 14) 23)) rfl).imp fun _ F => fun_of F
  have bOv := FOv.binds (ps := ["self", "other"]) fun _ _ _ _ _ _ us hl => match us, hl with | [_, _], _ => rfl
  have mNg : Meth K (He.ga K "Moment") "__neg__" (He.ma K (He.ga K "Moment") "__neg__") := He.meth_ok (c.fact 24 (f := .meth "Moment" "__neg__") rfl)
  obtain ⟨fdNg, FNg⟩ : ∃ fd, Fun K "__neg__" "Moment.__neg__" sNg (He.ma K (He.ga K "Moment") "__neg__") fd := (c.def_ 18 (d := dM "Moment" "__neg__" "Moment.__neg__" (inClass (top 14) 5)) rfl).imp fun _ F => fun_of F
  have bNg := FNg.binds (ps := ["self"]) fun _ _ _ _ _ _ us hl => match us, hl with | [_], _ => rfl
  obtain ⟨fdRo, FRo⟩ : ∃ fd, Fun K "_law_row" "_law_row" sRo (He.ga K "_law_row") fd := (c.def_ 19 (d := dG "_law_row" (top 103)) rfl).imp fun _ F => fun_of F
  have gRo : mg "_law_row" = some (.ref (He.ga K "_law_row")) := He.glo_ok X G (c.fact 25 (f := .glo "_law_row") rfl)
  have bRo := FRo.binds (ps := ["_law_cell_here", "_law_sizes"]) fun _ _ _ _ _ _ us hl => match us, hl with | [_, _], _ => rfl
  obtain ⟨fdLa, FLa⟩ : ∃ fd, Fun K "later" "later" sLa (He.ga K "later") fd := (c.def_ 20 (d := dG "later" (top 22)) rfl).imp fun _ F => fun_of F
  have gLa : mg "later" = some (.ref (He.ga K "later")) := He.glo_ok X G (c.fact 26 (f := .glo "later") rfl)
  have bLa := FLa.binds (ps := ["first", "second"]) fun _ _ _ _ _ _ us hl => match us, hl with | [_, _], _ => rfl
  obtain ⟨fdMg, FMg⟩ : ∃ fd, Fun K "_merged" "_merged" sMg (He.ga K "_merged") fd := (c.def_ 21 (d := dG "_merged" (top 25)) rfl).imp fun _ F => fun_of F
  have gMg : mg "_merged" = some (.ref (He.ga K "_merged")) := He.glo_ok X G (c.fact 27 (f := .glo "_merged") rfl)
  have bMg := FMg.binds (ps := ["first", "second"]) fun _ _ _ _ _ _ us hl => match us, hl with | [_, _], _ => rfl
  obtain ⟨fdAs, FAs⟩ : ∃ fd, Fun K "ascending" "ascending" sAs (He.ga K "ascending") fd := (c.def_ 22 (d := dG "ascending" (top 24)) rfl).imp fun _ F => fun_of F
  have gAs : mg "ascending" = some (.ref (He.ga K "ascending")) := He.glo_ok X G (c.fact 28 (f := .glo "ascending") rfl)
  have bAs := FAs.binds (ps := ["rows"]) fun _ _ _ _ _ _ us hl => match us, hl with | [_], _ => rfl
  obtain ⟨fdMv, FMv⟩ : ∃ fd, Fun K "moved" "moved" sMv (He.ga K "moved") fd := (c.def_ 23 (d := dG "moved" (top 64)) rfl).imp fun _ F => fun_of F
  have gMv : mg "moved" = some (.ref (He.ga K "moved")) := He.glo_ok X G (c.fact 29 (f := .glo "moved") rfl)
  have bMv := FMv.binds (ps := ["row", "time"]) fun _ _ _ _ _ _ us hl => match us, hl with | [_, _], _ => rfl
  obtain ⟨fdMky, FMky⟩ : ∃ fd, Fun K "mark_key" "mark_key" sMky (He.ga K "mark_key") fd := (c.def_ 24 (d := dG "mark_key" (top 65)) rfl).imp fun _ F => fun_of F
  have gMky : mg "mark_key" = some (.ref (He.ga K "mark_key")) := He.glo_ok X G (c.fact 30 (f := .glo "mark_key") rfl)
  have bMky := FMky.binds (ps := ["row"]) fun _ _ _ _ _ _ us hl => match us, hl with | [_], _ => rfl
  obtain ⟨fdUn, FUn⟩ : ∃ fd, Fun K "united" "united" sUn (He.ga K "united") fd := (c.def_ 25 (d := dG "united" (top 60)) rfl).imp fun _ F => fun_of F
  have gUn : mg "united" = some (.ref (He.ga K "united")) := He.glo_ok X G (c.fact 31 (f := .glo "united") rfl)
  have bUn := FUn.binds (ps := ["parts"]) fun _ _ _ _ _ _ us hl => match us, hl with | [_], _ => rfl
  obtain ⟨fdRj, FRj⟩ : ∃ fd, Fun K "rejoined" "rejoined" sRj (He.ga K "rejoined") fd := (c.def_ 26 (d := dG "rejoined" (top 67)) rfl).imp fun _ F => fun_of F
  have gRj : mg "rejoined" = some (.ref (He.ga K "rejoined")) := He.glo_ok X G (c.fact 32 (f := .glo "rejoined") rfl)
  have bRj := FRj.binds (ps := ["rows"]) fun _ _ _ _ _ _ us hl => match us, hl with | [_], _ => rfl
  obtain ⟨fdGd, FGd⟩ : ∃ fd, Fun K "grouped" "grouped" sGd (He.ga K "grouped") fd := (c.def_ 27 (d := dG "grouped" (top 27)) rfl).imp fun _ F => fun_of F
  have gGd : mg "grouped" = some (.ref (He.ga K "grouped")) := He.glo_ok X G (c.fact 33 (f := .glo "grouped") rfl)
  have bGd := FGd.binds (ps := ["rows"]) fun _ _ _ _ _ _ us hl => match us, hl with | [_], _ => rfl
  obtain ⟨fdIo, FIo⟩ : ∃ fd, Fun K "in_order" "in_order" sIo (He.ga K "in_order") fd := (c.def_ 28 (d := dG "in_order" (top 26)) rfl).imp fun _ F => fun_of F
  have gIo : mg "in_order" = some (.ref (He.ga K "in_order")) := He.glo_ok X G (c.fact 34 (f := .glo "in_order") rfl)
  have bIo := FIo.binds (ps := ["rows"]) fun _ _ _ _ _ _ us hl => match us, hl with | [_], _ => rfl
  obtain ⟨fdLo, FLo⟩ : ∃ fd, Fun K "longest" "longest" sLo (He.ga K "longest") fd := (c.def_ 29 (d := dG "longest" (top 66)) rfl).imp fun _ F => fun_of F
  have gLo : mg "longest" = some (.ref (He.ga K "longest")) := He.glo_ok X G (c.fact 35 (f := .glo "longest") rfl)
  have bLo := FLo.binds (ps := ["rows"]) fun _ _ _ _ _ _ us hl => match us, hl with | [_], _ => rfl
  obtain ⟨fdTn, FTn⟩ : ∃ fd, Fun K "least_turn" "least_turn" sTn (He.ga K "least_turn") fd := (c.def_ 30 (d := dG "least_turn" (top 29)) rfl).imp fun _ F => fun_of F
  have gTn : mg "least_turn" = some (.ref (He.ga K "least_turn")) := He.glo_ok X G (c.fact 36 (f := .glo "least_turn") rfl)
  have bTn := FTn.binds (ps := ["keys"]) fun _ _ _ _ _ _ us hl => match us, hl with | [_], _ => rfl
  obtain ⟨fdRk, FRk⟩ : ∃ fd, Fun K "_ring_keys" "_ring_keys" sRk (He.ga K "_ring_keys") fd := (c.def_ 31 (d := dG "_ring_keys" (top 70)) rfl).imp fun _ F => fun_of F
  have gRk : mg "_ring_keys" = some (.ref (He.ga K "_ring_keys")) := He.glo_ok X G (c.fact 37 (f := .glo "_ring_keys") rfl)
  have bRk := FRk.binds (ps := ["span", "ring"]) fun _ _ _ _ _ _ us hl => match us, hl with | [_, _], _ => rfl
  obtain ⟨fdTf, FTf⟩ : ∃ fd, Fun K "tune_form" "tune_form" sTf (He.ga K "tune_form") fd := (c.def_ 32 (d := dG "tune_form" (top 69)) rfl).imp fun _ F => fun_of F
  have gTf : mg "tune_form" = some (.ref (He.ga K "tune_form")) := He.glo_ok X G (c.fact 38 (f := .glo "tune_form") rfl)
  have bTf := FTf.binds (ps := ["span", "rows"]) fun _ _ _ _ _ _ us hl => match us, hl with | [_, _], _ => rfl
  have mNK : Meth K (He.ga K "NoMark") "__init__" (He.ma K (He.ga K "NoMark") "__init__") := He.meth_ok (c.fact 39 (f := .meth "NoMark" "__init__") rfl)
  obtain ⟨fdNK, FNK⟩ : ∃ fd, Fun K "__init__" "NoMark.__init__" sNK (He.ma K (He.ga K "NoMark") "__init__") fd := (c.def_ 33 (d := dM "NoMark" "__init__" "NoMark.__init__" (inClass (top 7) 0)) rfl).imp fun _ F => fun_of F
  have bNK := FNK.binds (ps := ["self", "tone", "begin", "end"]) fun _ _ _ _ _ _ us hl => match us, hl with | [_, _, _, _], _ => rfl
  have mMk : Meth K (He.ga K "Mark") "__init__" (He.ma K (He.ga K "Mark") "__init__") := He.meth_ok (c.fact 40 (f := .meth "Mark" "__init__") rfl)
  obtain ⟨fdMk, FMk0⟩ : ∃ fd, FMk K (He.ma K (He.ga K "Mark") "__init__") fd := c.def_ 34 (d := ⟨("Mark", some "__init__"), "__init__", "Mark.__init__", defArgs (inClass (top 56) 0), defBody (inClass (top 56) 0), defScope (inClass (top 56) 0), [], [("start", .non), ("stop", .non)]⟩) rfl
  obtain ⟨fdRo2, FRo2⟩ : ∃ fd, Fun K "rows_of" "rows_of" sRo2 (He.ga K "rows_of") fd := (c.def_ 35 (d := dG "rows_of" (top 62)) rfl).imp fun _ F => fun_of F
  have gRo2 : mg "rows_of" = some (.ref (He.ga K "rows_of")) := He.glo_ok X G (c.fact 41 (f := .glo "rows_of") rfl)
  have bRo2 := FRo2.binds (ps := ["marks"]) fun _ _ _ _ _ _ us hl => match us, hl with | [_], _ => rfl
  obtain ⟨fdMo2, FMo2⟩ : ∃ fd, Fun K "marks_of" "marks_of" sMo2 (He.ga K "marks_of") fd := (c.def_ 36 (d := dG "marks_of" (top 63)) rfl).imp fun _ F => fun_of F
  have gMo2 : mg "marks_of" = some (.ref (He.ga K "marks_of")) := He.glo_ok X G (c.fact 42 (f := .glo "marks_of") rfl)
  have bMo2 := FMo2.binds (ps := ["rows"]) fun _ _ _ _ _ _ us hl => match us, hl with | [_], _ => rfl
  have mNR : Meth K (He.ga K "NoRounds") "__init__" (He.ma K (He.ga K "NoRounds") "__init__") := He.meth_ok (c.fact 43 (f := .meth "NoRounds" "__init__") rfl)
  obtain ⟨fdNR, FNR⟩ : ∃ fd, Fun K "__init__" "NoRounds.__init__" sNR (He.ma K (He.ga K "NoRounds") "__init__") fd := (c.def_ 37 (d := dM "NoRounds" "__init__" "NoRounds.__init__" (inClass (top 8) 0)) rfl).imp fun _ F => fun_of F
  have bNR := FNR.binds (ps := ["self", "rounds"]) fun _ _ _ _ _ _ us hl => match us, hl with | [_, _], _ => rfl
  have mTI : Meth K (He.ga K "Tune") "__init__" (He.ma K (He.ga K "Tune") "__init__") := He.meth_ok (c.fact 44 (f := .meth "Tune" "__init__") rfl)
  obtain ⟨fdTI, FTI⟩ : ∃ fd, Fun K "__init__" "Tune.__init__" sTI (He.ma K (He.ga K "Tune") "__init__") fd := (c.def_ 38 (d := dM "Tune" "__init__" "Tune.__init__" (inClass (top 96) 0)) rfl).imp fun _ F => fun_of F
  have bTI := FTI.binds (ps := ["self", "rounds", "marks"]) fun _ _ _ _ _ _ us hl => match us, hl with | [_, _, _], _ => rfl
  obtain ⟨fdUt, FUt⟩ : ∃ fd, Fun K "_law_unit" "_law_unit" sUt (He.ga K "_law_unit") fd := (c.def_ 39 (d := dG "_law_unit" (top 104)) rfl).imp fun _ F => fun_of F
  have gUt : mg "_law_unit" = some (.ref (He.ga K "_law_unit")) := He.glo_ok X G (c.fact 45 (f := .glo "_law_unit") rfl)
  have bUt := FUt.binds (ps := ["_law_draw"]) fun _ _ _ _ _ _ us hl => match us, hl with | [_], _ => rfl
  obtain ⟨fdGr, FGr⟩ : ∃ fd, Fun K "_law_grain" "_law_grain" sGr (He.ga K "_law_grain") fd := (c.def_ 40 (d := dG "_law_grain" (top 106)) rfl).imp fun _ F => fun_of F
  have gGr : mg "_law_grain" = some (.ref (He.ga K "_law_grain")) := He.glo_ok X G (c.fact 46 (f := .glo "_law_grain") rfl)
  have bGr := FGr.binds (ps := ["_law_unit_here"]) fun _ _ _ _ _ _ us hl => match us, hl with | [_], _ => rfl
  obtain ⟨fdOn, FOn⟩ : ∃ fd, Fun K "_law_one" "_law_one" sOn (He.ga K "_law_one") fd := (c.def_ 41 (d := dG "_law_one" (top 107)) rfl).imp fun _ F => fun_of F
  have gOn : mg "_law_one" = some (.ref (He.ga K "_law_one")) := He.glo_ok X G (c.fact 47 (f := .glo "_law_one") rfl)
  have bOn := FOn.binds (ps := ["_law_row_here", "_law_at", "_law_period", "_law_unit_here"]) fun _ _ _ _ _ _ us hl => match us, hl with | [_, _, _, _], _ => rfl
  obtain ⟨fdFi, FFi⟩ : ∃ fd, Fun K "_law_fill" "_law_fill" sFi (He.ga K "_law_fill") fd := (c.def_ 42 (d := dG "_law_fill" (top 108)) rfl).imp fun _ F => fun_of F
  have gFi : mg "_law_fill" = some (.ref (He.ga K "_law_fill")) := He.glo_ok X G (c.fact 48 (f := .glo "_law_fill") rfl)
  have bFi := FFi.binds (ps := ["_law_row_here", "_law_at", "_law_most", "_law_count", "_law_unit_here"]) fun _ _ _ _ _ _ us hl => match us, hl with | [_, _, _, _, _], _ => rfl
  obtain ⟨fdSz, FSz⟩ : ∃ fd, Fun K "_law_fill_sizes" "_law_fill_sizes" sSz (He.ga K "_law_fill_sizes") fd := (c.def_ 43 (d := dG "_law_fill_sizes" (top 109)) rfl).imp fun _ F => fun_of F
  have gSz : mg "_law_fill_sizes" = some (.ref (He.ga K "_law_fill_sizes")) := He.glo_ok X G (c.fact 49 (f := .glo "_law_fill_sizes") rfl)
  have bSz := FSz.binds (ps := ["_law_count"]) fun _ _ _ _ _ _ us hl => match us, hl with | [_], _ => rfl
  obtain ⟨fdLk, FLk⟩ : ∃ fd, Fun K "_law_marks" "_law_marks" sLk (He.ga K "_law_marks") fd := (c.def_ 44 (d := dG "_law_marks" (top 110)) rfl).imp fun _ F => fun_of F
  have gLk : mg "_law_marks" = some (.ref (He.ga K "_law_marks")) := He.glo_ok X G (c.fact 50 (f := .glo "_law_marks") rfl)
  have bLk := FLk.binds (ps := ["_law_rows", "_law_unit_here"]) fun _ _ _ _ _ _ us hl => match us, hl with | [_, _], _ => rfl
  obtain ⟨fdFl, FFl⟩ : ∃ fd, Fun K "_law_floor" "_law_floor" sFl (He.ga K "_law_floor") fd := (c.def_ 45 (d := dG "_law_floor" (top 112)) rfl).imp fun _ F => fun_of F
  have gFl : mg "_law_floor" = some (.ref (He.ga K "_law_floor")) := He.glo_ok X G (c.fact 51 (f := .glo "_law_floor") rfl)
  have bFl := FFl.binds (ps := ["_law_time", "_law_span", "_law_side"]) fun _ _ _ _ _ _ us hl => match us, hl with | [_, _, _], _ => rfl
  obtain ⟨fdCp, FCp⟩ : ∃ fd, Fun K "_law_copies" "_law_copies" sCp (He.ga K "_law_copies") fd := (c.def_ 46 (d := dG "_law_copies" (top 113)) rfl).imp fun _ F => fun_of F
  have gCp : mg "_law_copies" = some (.ref (He.ga K "_law_copies")) := He.glo_ok X G (c.fact 52 (f := .glo "_law_copies") rfl)
  have bCp := FCp.binds (ps := ["_law_one_here", "_law_span", "_law_t", "_law_side"]) fun _ _ _ _ _ _ us hl => match us, hl with | [_, _, _, _], _ => rfl
  obtain ⟨fdTs, FTs⟩ : ∃ fd, Fun K "_law_tune_set" "_law_tune_set" sTs (He.ga K "_law_tune_set") fd := (c.def_ 47 (d := dG "_law_tune_set" (top 114)) rfl).imp fun _ F => fun_of F
  have gTs : mg "_law_tune_set" = some (.ref (He.ga K "_law_tune_set")) := He.glo_ok X G (c.fact 53 (f := .glo "_law_tune_set") rfl)
  have bTs := FTs.binds (ps := ["_law_fill_here", "_law_t", "_law_side", "_law_unit_here"]) fun _ _ _ _ _ _ us hl => match us, hl with | [_, _, _, _], _ => rfl
  obtain ⟨fdUs, FUs⟩ : ∃ fd, Fun K "_law_units" "_law_units" sUs (He.ga K "_law_units") fd := (c.def_ 48 (d := dG "_law_units" (top 120)) rfl).imp fun _ F => fun_of F
  have gUs : mg "_law_units" = some (.ref (He.ga K "_law_units")) := He.glo_ok X G (c.fact 54 (f := .glo "_law_units") rfl)
  have bUs := FUs.binds (ps := ["_law_moment", "_law_unit_here"]) fun _ _ _ _ _ _ us hl => match us, hl with | [_, _], _ => rfl
  obtain ⟨fdKy, FKy⟩ : ∃ fd, Fun K "_law_key" "_law_key" sKy (He.ga K "_law_key") fd := (c.def_ 49 (d := dG "_law_key" (top 121)) rfl).imp fun _ F => fun_of F
  have gKy : mg "_law_key" = some (.ref (He.ga K "_law_key")) := He.glo_ok X G (c.fact 55 (f := .glo "_law_key") rfl)
  have bKy := FKy.binds (ps := ["_law_mark", "_law_unit_here"]) fun _ _ _ _ _ _ us hl => match us, hl with | [_, _], _ => rfl
  obtain ⟨fdSm, FSm⟩ : ∃ fd, Fun K "_law_same" "_law_same" sSm (He.ga K "_law_same") fd := (c.def_ 50 (d := dG "_law_same" (top 115)) rfl).imp fun _ F => fun_of F
  have gSm : mg "_law_same" = some (.ref (He.ga K "_law_same")) := He.glo_ok X G (c.fact 56 (f := .glo "_law_same") rfl)
  have bSm := FSm.binds (ps := ["_law_left", "_law_right"]) fun _ _ _ _ _ _ us hl => match us, hl with | [_, _], _ => rfl
  obtain ⟨fdBf, FBf⟩ : ∃ fd, Fun K "_law_before" "_law_before" sBf (He.ga K "_law_before") fd := (c.def_ 51 (d := dG "_law_before" (top 123)) rfl).imp fun _ F => fun_of F
  have gBf : mg "_law_before" = some (.ref (He.ga K "_law_before")) := He.glo_ok X G (c.fact 57 (f := .glo "_law_before") rfl)
  have bBf := FBf.binds (ps := ["_law_a", "_law_b"]) fun _ _ _ _ _ _ us hl => match us, hl with | [_, _], _ => rfl
  obtain ⟨fdIr, FIr⟩ : ∃ fd, Fun K "_law_in_order" "_law_in_order" sIr (He.ga K "_law_in_order") fd := (c.def_ 52 (d := dG "_law_in_order" (top 124)) rfl).imp fun _ F => fun_of F
  have gIr : mg "_law_in_order" = some (.ref (He.ga K "_law_in_order")) := He.glo_ok X G (c.fact 58 (f := .glo "_law_in_order") rfl)
  have bIr := FIr.binds (ps := ["_law_marks_here"]) fun _ _ _ _ _ _ us hl => match us, hl with | [_], _ => rfl
  obtain ⟨fdIm, FIm⟩ : ∃ fd, Fun K "_law_is_marks" "_law_is_marks" sIm (He.ga K "_law_is_marks") fd := (c.def_ 53 (d := dG "_law_is_marks" (top 122)) rfl).imp fun _ F => fun_of F
  have gIm : mg "_law_is_marks" = some (.ref (He.ga K "_law_is_marks")) := He.glo_ok X G (c.fact 59 (f := .glo "_law_is_marks") rfl)
  have bIm := FIm.binds (ps := ["_law_actual"]) fun _ _ _ _ _ _ us hl => match us, hl with | [_], _ => rfl
  have mKE : Meth K (He.ga K "Mark") "__eq__" (He.ma K (He.ga K "Mark") "__eq__") := He.meth_ok (c.fact 60 (f := .meth "Mark" "__eq__") rfl)
  obtain ⟨fdKE, FKE⟩ : ∃ fd, Fun K "__eq__" "Mark.__eq__" sKE (He.ma K (He.ga K "Mark") "__eq__") fd := (c.def_ 54 (d := dM "Mark" "__eq__" "Mark.__eq__" (inClass (top 56) 1)) rfl).imp fun _ F => fun_of F
  have bKE := FKE.binds (ps := ["self", "other"]) fun _ _ _ _ _ _ us hl => match us, hl with | [_, _], _ => rfl
  obtain ⟨fdLl, FLl⟩ : ∃ fd, Fun K "_law_later" "_law_later" sLl (He.ga K "_law_later") fd := (c.def_ 55 (d := dG "_law_later" (top 119)) rfl).imp fun _ F => fun_of F
  have gLl : mg "_law_later" = some (.ref (He.ga K "_law_later")) := He.glo_ok X G (c.fact 61 (f := .glo "_law_later") rfl)
  have bLl := FLl.binds (ps := ["_law_fill_here", "_law_by"]) fun _ _ _ _ _ _ us hl => match us, hl with | [_, _], _ => rfl
  obtain ⟨fdCu, FCu⟩ : ∃ fd, Fun K "_law_cuts" "_law_cuts" sCu (He.ga K "_law_cuts") fd := (c.def_ 56 (d := dG "_law_cuts" (top 117)) rfl).imp fun _ F => fun_of F
  have gCu : mg "_law_cuts" = some (.ref (He.ga K "_law_cuts")) := He.glo_ok X G (c.fact 62 (f := .glo "_law_cuts") rfl)
  have bCu := FCu.binds (ps := ["_law_fill_here", "_law_count", "_law_unit_here"]) fun _ _ _ _ _ _ us hl => match us, hl with | [_, _, _], _ => rfl
  obtain ⟨fdAk, FAk⟩ : ∃ fd, Fun K "_law_alike" "_law_alike" sAk (He.ga K "_law_alike") fd := (c.def_ 57 (d := dG "_law_alike" (top 118)) rfl).imp fun _ F => fun_of F
  have gAk : mg "_law_alike" = some (.ref (He.ga K "_law_alike")) := He.glo_ok X G (c.fact 63 (f := .glo "_law_alike") rfl)
  have bAk := FAk.binds (ps := ["_law_one_here", "_law_two", "_law_unit_here"]) fun _ _ _ _ _ _ us hl => match us, hl with | [_, _, _], _ => rfl
  obtain ⟨fdLs, FLs⟩ : ∃ fd, Fun K "_law_least" "_law_least" sLs (He.ga K "_law_least") fd := (c.def_ 58 (d := dG "_law_least" (top 126)) rfl).imp fun _ F => fun_of F
  have gLs : mg "_law_least" = some (.ref (He.ga K "_law_least")) := He.glo_ok X G (c.fact 64 (f := .glo "_law_least") rfl)
  have bLs := FLs.binds (ps := ["_law_fill_here", "_law_unit_here"]) fun _ _ _ _ _ _ us hl => match us, hl with | [_, _], _ => rfl
  obtain ⟨fdRp, FRp⟩ : ∃ fd, Fun K "_law_repeated" "_law_repeated" sRp (He.ga K "_law_repeated") fd := (c.def_ 59 (d := dG "_law_repeated" (top 127)) rfl).imp fun _ F => fun_of F
  have gRp : mg "_law_repeated" = some (.ref (He.ga K "_law_repeated")) := He.glo_ok X G (c.fact 65 (f := .glo "_law_repeated") rfl)
  have bRp := FRp.binds (ps := ["_law_fill_here", "_law_count", "_law_unit_here"]) fun _ _ _ _ _ _ us hl => match us, hl with | [_, _, _], _ => rfl
  obtain ⟨fdHd, FHd⟩ : ∃ fd, Fun K "_law_held" "_law_held" sHd (He.ga K "_law_held") fd := (c.def_ 60 (d := dG "_law_held" (top 128)) rfl).imp fun _ F => fun_of F
  have gHd : mg "_law_held" = some (.ref (He.ga K "_law_held")) := He.glo_ok X G (c.fact 66 (f := .glo "_law_held") rfl)
  have bHd := FHd.binds (ps := ["_law_tune_here", "_law_unit_here"]) fun _ _ _ _ _ _ us hl => match us, hl with | [_, _], _ => rfl
  have mLn : Meth K (He.ga K "Tune") "__len__" (He.ma K (He.ga K "Tune") "__len__") := He.meth_ok (c.fact 67 (f := .meth "Tune" "__len__") rfl)
  obtain ⟨fdLn, FLn⟩ : ∃ fd, Fun K "__len__" "Tune.__len__" sLn (He.ma K (He.ga K "Tune") "__len__") fd := (c.def_ 61 (d := dM "Tune" "__len__" "Tune.__len__" (inClass (top 96) 4)) rfl).imp fun _ F => fun_of F
  have bLn := FLn.binds (ps := ["self"]) fun _ _ _ _ _ _ us hl => match us, hl with | [_], _ => rfl
  obtain ⟨fdIi, FIi⟩ : ∃ fd, Fun K "_law_is_int" "_law_is_int" sIi (He.ga K "_law_is_int") fd := (c.def_ 62 (d := dG "_law_is_int" (top 125)) rfl).imp fun _ F => fun_of F
  have gIi : mg "_law_is_int" = some (.ref (He.ga K "_law_is_int")) := He.glo_ok X G (c.fact 68 (f := .glo "_law_is_int") rfl)
  have bIi := FIi.binds (ps := ["_law_actual"]) fun _ _ _ _ _ _ us hl => match us, hl with | [_], _ => rfl
  obtain ⟨fdLaw, FLawD⟩ : ∃ fd, FunD K "law" "law" (defArgs sLaw) (defBody sLaw) (defScope sLaw) [] [] (He.ga K "law") fd := c.def_ 63 (d := dG "law" (top 129)) rfl
  have FLaw : Fun K "law" "law" sLaw _ fdLaw := fun_of FLawD
  have bLawA := FunD.bindsA (ps := ["_law_script"]) FLawD fun _ _ _ _ _ _ us hl => match us, hl with | [_], _ => rfl
  have gLaw : mg "law" = some (.ref (He.ga K "law")) := He.glo_ok X G (c.fact 0 (f := .glo "law") rfl)
  have bLaw := FLaw.binds (ps := ["_law_script"]) fun _ _ _ _ _ _ us hl => match us, hl with | [_], _ => rfl
  have e := hfa.symm.trans gLaw
  cases e
  have bLawS : ∀ (s : Shared) (v : Value), BindsTo s fdLaw ⟨[v], []⟩ [("_law_script", v)] := fun s v => bLawA s [v] rfl
  refine ⟨fdLaw, bLawS, fun base _ _ => ?_⟩
  have oC := ownB_ok (c.tst 0 (f := ownB "Moment") rfl)
  have oM := ownB_ok (c.tst 1 (f := ownB "Mark") rfl)
  have oT := ownB_ok (c.tst 2 (f := ownB "Tune") rfl)
  have mf := momB_ok (c.tst 3 (f := momB) rfl)
  have T : Txt K mg (He.ga K "Moment") := ⟨(He.free_ok X G (c.fact 73 (f := .free "len") rfl)), (He.free_ok X G (c.fact 74 (f := .free "abs") rfl)), (He.free_ok X G (c.fact 75 (f := .free "int") rfl)), (He.free_ok X G (c.fact 76 (f := .free "bool") rfl)), (He.free_ok X G (c.fact 77 (f := .free "isinstance") rfl)), (He.free_ok X G (c.fact 78 (f := .free "range") rfl)), PySem.W.mg_of X G mf.gcd, (He.glo_ok X G (c.fact 86 (f := .glo "Moment") rfl)), oC.cl, (He.noat_ok (c.fact 92 (f := .noat "Moment" "top") rfl)), (He.noat_ok (c.fact 93 (f := .noat "Moment" "bottom") rfl)), oC.cc, mf.clg, mf.clt, oC.mo, mf.isC, mf.isI, mf.iI, (He.free_ok X G (c.fact 79 (f := .free "list") rfl)), (He.free_ok X G (c.fact 80 (f := .free "dict") rfl)), mf.nL, mf.nD⟩
  have TN : TxtN K mg (He.ga K "NoMoment") _ := ⟨excB_ok (c.tst 4 (f := excB "NoMoment") rfl), (He.noat_ok (c.fact 94 (f := .noat "NoMoment" "top") rfl)), (He.noat_ok (c.fact 95 (f := .noat "NoMoment" "bottom") rfl)), mNM.at_, tyB_ok (c.tst 5 (f := tyB "NoMoment" "__init__") rfl), (He.glo_ok X G (c.fact 87 (f := .glo "NoMoment") rfl))⟩
  have TO : Opc K (He.ga K "Moment") := ⟨oC.sf, oC.nI, oC.ob⟩
  have TK : TxtK K mg (He.ga K "Mark") (He.ga K "NoMark") _ := ⟨excB_ok (c.tst 6 (f := excB "NoMark") rfl), (He.noat_ok (c.fact 96 (f := .noat "NoMark" "tone") rfl)), (He.noat_ok (c.fact 97 (f := .noat "NoMark" "begin") rfl)), (He.noat_ok (c.fact 98 (f := .noat "NoMark" "end") rfl)), mNK.at_, tyB_ok (c.tst 7 (f := tyB "NoMark" "__init__") rfl), (He.glo_ok X G (c.fact 88 (f := .glo "NoMark") rfl)), (He.glo_ok X G (c.fact 89 (f := .glo "Mark") rfl)), oM.cl, (He.noat_ok (c.fact 99 (f := .noat "Mark" "tone") rfl)), (He.noat_ok (c.fact 100 (f := .noat "Mark" "begin") rfl)), (He.noat_ok (c.fact 101 (f := .noat "Mark" "end") rfl)), (He.noat_ok (c.fact 102 (f := .noat "Mark" "start") rfl)), (He.noat_ok (c.fact 103 (f := .noat "Mark" "stop") rfl))⟩
  have TR : TxtR K mg (He.ga K "NoRounds") _ := ⟨excB_ok (c.tst 8 (f := excB "NoRounds") rfl), (He.noat_ok (c.fact 104 (f := .noat "NoRounds" "rounds") rfl)), mNR.at_, tyB_ok (c.tst 9 (f := tyB "NoRounds" "__init__") rfl), (He.glo_ok X G (c.fact 90 (f := .glo "NoRounds") rfl))⟩
  have TU' : TxtU K mg (He.ga K "Tune") := ⟨oT.cl, (He.noat_ok (c.fact 105 (f := .noat "Tune" "rounds") rfl)), (He.noat_ok (c.fact 106 (f := .noat "Tune" "marks") rfl)), (He.glo_ok X G (c.fact 91 (f := .glo "Tune") rfl))⟩
  obtain ⟨tb, hbx⟩ := He.int_ok X G (c.fact 69 (f := .int "BOXES_IN_A_ROUND" 1024) rfl)
  have TX2 : Tx2 K mg tb := ⟨(He.free_ok X G (c.fact 81 (f := .free "sorted") rfl)), (He.free_ok X G (c.fact 82 (f := .free "any") rfl)), (He.free_ok X G (c.fact 83 (f := .free "enumerate") rfl)), hbx⟩
  have TX3 : Tx3 K mg := ⟨(He.free_ok X G (c.fact 84 (f := .free "max") rfl))⟩
  have MkC : Mk K (He.ga K "Moment") _ := He.mkr_ok (c.fact 70 (f := .mkr "Moment") rfl)
  have MkM : Mk K (He.ga K "Mark") _ := He.mkr_ok (c.fact 71 (f := .mkr "Mark") rfl)
  have MkT : Mk K (He.ga K "Tune") _ := He.mkr_ok (c.fact 72 (f := .mkr "Tune") rfl)
  have OKp : Ok P w K mg base CX0 1 "_kept" _ (spKept K) := ⟨_, _, ok_kept FKp T, gKp, FKp.kp, bKp⟩
  obtain ⟨ds1, vds1, bIn1⟩ := FIn.binds1 (ps := psIn) 2 0 (by simp) rfl fun _ _ _ _ _ _ _ us its hu hi => match us, hu, its, hi with | [_, _], _, [_], _ => ⟨_, rfl, rfl⟩
  obtain ⟨ds0, vds0, bIn0⟩ := FIn.binds1 (ps := psIn) 3 1 (by simp) rfl fun _ _ _ _ _ _ _ us its hu hi => match us, hu, its, hi with | [_, _, _], _, [_], _ => ⟨_, rfl, rfl⟩
  cases vds0
  have OI : OkI P w K mg base (He.ga K "Moment") (He.ga K "NoMoment") := ⟨_, _, ds1, ok_init FIn T TN FNM bNM OKp, MkC, bIn0, vds1, bIn1⟩
  have OTi : Ok P w K mg base CX0 1 "is_time" _ (spIsTime (He.ga K "Moment")) := ⟨_, _, ok_istime FIt T, gIt, FIt.kp, bIt⟩
  have OAm : Ok P w K mg base CX0 6 "as_moment" _ (spAsM (He.ga K "Moment")) := ⟨_, _, ok_asm FAm T OI, gAm, FAm.kp, bAm⟩
  have O2add : Op2 K (He.ga K "Moment") "add" _ := ⟨mAdd.at_, mAdd.fn, _, .inr mRAdd.at_⟩
  have O2sub : Op2 K (He.ga K "Moment") "sub" _ := ⟨mSub.at_, mSub.fn, _, .inr mRSub.at_⟩
  have O2mul : Op2 K (He.ga K "Moment") "mul" _ := ⟨mMul.at_, mMul.fn, _, .inr mRMul.at_⟩
  have O2fd : Op2 K (He.ga K "Moment") "floordiv" _ := ⟨mFd.at_, mFd.fn, _, .inr mRFd.at_⟩
  have O2md : Op2 K (He.ga K "Moment") "mod" _ := ⟨mMd.at_, mMd.fn, _, .inr mRMd.at_⟩
  have GAdd : FnOk P w K mg base CX0 7 _ _ _ (spBin (He.ga K "Moment") nAdd dAll) := ok_add FAdd T OI OTi OAm
  have GSub : FnOk P w K mg base CX0 7 _ _ _ (spBin (He.ga K "Moment") nSub dAll) := ok_sub FSub T OI OTi OAm
  have GMul : FnOk P w K mg base CX0 7 _ _ _ (spBin (He.ga K "Moment") nMul dAll) := ok_mul FMul T OI OTi OAm
  have GFd : FnOk P w K mg base (L2.CX P w) 7 _ _ _ (spFloor (He.ga K "Moment")) := ok_fd FFd T OTi OAm
  have GMd : FnOk P w K mg base (L2.CX P w) 8 _ _ _ (spMod (He.ga K "Moment")) := ok_md FMd T TO OTi O2fd GFd bFd O2mul GMul bMul O2sub GSub bSub
  have GNg : FnOk P w K mg base CX0 6 _ _ _ (spNeg (He.ga K "Moment")) := ok_neg FNg T OI
  have GEq : FnOk P w K mg base CX0 1 _ _ _ (spEq2 (He.ga K "Moment")) := ok_eq FEq T oC.ic oC.ty
  have GLt : FnOk P w K mg base CX0 7 _ _ _ (spCmp (He.ga K "Moment") gLt) := ok_lt FLt T OTi OAm
  have GLe : FnOk P w K mg base CX0 7 _ _ _ (spCmp (He.ga K "Moment") gLe) := ok_le FLe T OTi OAm
  have GGt : FnOk P w K mg base CX0 7 _ _ _ (spCmp (He.ga K "Moment") gGt) := ok_gt FGt T OTi OAm
  have GGe : FnOk P w K mg base CX0 7 _ _ _ (spCmp (He.ga K "Moment") gGe) := ok_ge FGe T OTi OAm
  have GOv : FnOk P w K mg base (L2.CX P w) 7 _ _ _ (spOver (He.ga K "Moment")) := ok_over FOv T (He.free_ok X G (c.fact 85 (f := .free "ZeroDivisionError") rfl)) OI OAm
  have M : MoE P w K mg base (He.ga K "Moment") (He.ga K "NoMoment") := ⟨T, TO, oC.ic, oC.ty, oC.ne, (He.free_ok X G (c.fact 85 (f := .free "ZeroDivisionError") rfl)), OI, OAm, ⟨_, _, O2add, GAdd, bAdd⟩, ⟨_, _, O2sub, GSub, bSub⟩, ⟨_, _, O2mul, GMul, bMul⟩, ⟨_, _, O2fd, GFd, bFd⟩, ⟨_, _, O2md, GMd, bMd⟩, ⟨_, _, mNg.at_, mNg.fn, GNg, bNg⟩, ⟨_, _, mEq.at_, mEq.fn, GEq, bEq⟩, ⟨_, _, mLt.at_, mLt.fn, GLt, bLt⟩, ⟨_, _, mLe.at_, mLe.fn, GLe, bLe⟩, ⟨_, _, mGt.at_, mGt.fn, GGt, bGt⟩, ⟨_, _, mGe.at_, mGe.fn, GGe, bGe⟩⟩
  have OLa : Ok P w K mg base CX0 (8) "later" _ (spLa (He.ga K "Moment")) := ⟨_, _, ok_later FLa M, gLa, FLa.kp, bLa⟩
  have OMg : ∀ O : DomM (He.ga K "Moment"), Ok P w K mg base CX0 9 "_merged" _ (spMg O) := fun O => ⟨_, _, ok_merged FMg M O, gMg, FMg.kp, bMg⟩
  have OAs : OkAs P w K mg base (He.ga K "Moment") 4 := ⟨_, _, fun O => ok_ascending FAs M O gAs FAs.kp bAs (OMg O) 4 (by decide), gAs, FAs.kp, bAs⟩
  have OMv : Ok P w K mg base CX0 (8) "moved" _ (spMv (He.ga K "Moment")) := ⟨_, _, ok_moved FMv M, gMv, FMv.kp, bMv⟩
  have OMky : Ok P w K mg base CX0 (1) "mark_key" _ (spMk (He.ga K "Moment")) := ⟨_, _, ok_mark_key FMky M, gMky, FMky.kp, bMky⟩
  have OUn : Ok P w K mg base CX0 (9) "united" _ (spUn (He.ga K "Moment")) := ⟨_, _, ok_united FUn M OLa, gUn, FUn.kp, bUn⟩
  have ORj : Ok P w K mg base CX0 (4 + 11) "rejoined" _ (spRj (He.ga K "Moment") 4) := ⟨_, _, ok_rejoined FRj M (by decide) OMky OUn OAs, gRj, FRj.kp, bRj⟩
  have OGd : Ok P w K mg base CX0 (4 + 11) "grouped" _ (spGd (He.ga K "Moment") 4) := ⟨_, _, ok_grouped FGd M TX2 (by decide) OAs, gGd, FGd.kp, bGd⟩
  have OIo : Ok P w K mg base CX0 (4 + 12) "in_order" _ (spIo (He.ga K "Moment") 4) := ⟨_, _, ok_in_order FIo M (by decide) OAs OGd, gIo, FIo.kp, bIo⟩
  have OLo : Ok P w K mg base CX0 (4 + 13) "longest" _ (spLo (He.ga K "Moment") 4) := ⟨_, _, ok_longest FLo ORj OIo, gLo, FLo.kp, bLo⟩
  have OTn : Ok P w K mg base CX0 (2) "least_turn" _ spLt := ⟨_, _, ok_least_turn FTn T, gTn, FTn.kp, bTn⟩
  have ORk : Ok P w K mg base CX0 (9) "_ring_keys" _ (spRk (He.ga K "Moment")) := ⟨_, _, ok_ring_keys FRk M TX2 OMky OMv, gRk, FRk.kp, bRk⟩
  have OTf : Ok P w K mg base CX0 (4 + 14) "tune_form" _ (spTf (He.ga K "Moment") 4) := ⟨_, _, ok_tune_form FTf M (by decide) mOv GOv bOv OMv OLo OIo OTn ORk, gTf, FTf.kp, bTf⟩
  have R4 : Ord4 P w K mg base (He.ga K "Moment") _ _ _ _ _ _ _ _ := ⟨GLt, GLe, GGt, GGe, mLt.at_, mLe.at_, mGt.at_, mGe.at_, mLt.fn, mLe.fn, mGt.fn, mGe.fn, bLt, bLe, bGt, bGe⟩
  have GMk : FnOk P w K mg base (L2.CX P w) 9 _ _ psMk (spMark (He.ga K "Mark") (He.ga K "Moment") (He.ga K "NoMark")) := ok_mark FMk0 T TO TK FNK bNK OKp R4 OAm
  have ORo2 : Ok P w K mg base CX0 (1) "rows_of" _ (spRo2 (He.ga K "Mark") (He.ga K "Moment")) := ⟨_, _, ok_rows_of FRo2 TK, gRo2, FRo2.kp, bRo2⟩
  have OMo2 : Ok P w K mg base CX0 (11) "marks_of" _ (spMo2 (He.ga K "Mark") (He.ga K "Moment")) := ⟨_, _, ok_marks_of FMo2 TK MkM GMk FMk0, gMo2, FMo2.kp, bMo2⟩
  have GTI : FnOk P w K mg base (L2.CX P w) (4 + 15) _ _ _ (spTu (He.ga K "Tune") (He.ga K "Mark") (He.ga K "Moment") (He.ga K "NoRounds") 4) := ok_tune FTI M TU' TR FNR bNR OKp (by decide) OTf ORo2 OMo2
  have GLn : FnOk P w K mg base CX0 1 _ _ _ (spLn (He.ga K "Tune") (He.ga K "Mark") (He.ga K "Moment")) := ok_len FLn T TU'
  have OCe : Ok P w K mg base CX0 (1) "_law_cell" _ (spCell K) := ⟨_, _, ok_cell FCe T, gCe, FCe.kp, bCe⟩
  have ORo : Ok P w K mg base CX0 (1) "_law_row" _ (spRow K) := ⟨_, _, ok_row FRo T, gRo, FRo.kp, bRo⟩
  have OUt : Ok P w K mg base CX0 (1) "_law_unit" _ spUt := ⟨_, _, ok_unit FUt, gUt, FUt.kp, bUt⟩
  have OGr : Ok P w K mg base CX0 (1) "_law_grain" _ spGr := ⟨_, _, ok_grain FGr TX3, gGr, FGr.kp, bGr⟩
  have OOn : Ok P w K mg base CX0 (2) "_law_one" _ (spOn K) := ⟨_, _, ok_one FOn OGr, gOn, FOn.kp, bOn⟩
  have OFi : Ok P w K mg base CX0 (3) "_law_fill" _ (spFi K) := ⟨_, _, ok_fill FFi T OGr OOn, gFi, FFi.kp, bFi⟩
  have OSz : Ok P w K mg base CX0 (1) "_law_fill_sizes" _ spSz := ⟨_, _, ok_sizes FSz T, gSz, FSz.kp, bSz⟩
  have OLk : Ok P w K mg base CX0 (11) "_law_marks" _ (spLk (He.ga K "Mark") (He.ga K "Moment")) := ⟨_, _, ok_lmarks FLk T OI TK MkM GMk FMk0, gLk, FLk.kp, bLk⟩
  have OFl : Ok P w K mg base CX0 (1) "_law_floor" _ spFl := ⟨_, _, ok_floor FFl, gFl, FFl.kp, bFl⟩
  have OCp : Ok P w K mg base CX0 (2) "_law_copies" _ spCp := ⟨_, _, ok_copies FCp T OFl, gCp, FCp.kp, bCp⟩
  have OTs : Ok P w K mg base CX0 (3) "_law_tune_set" _ spTs := ⟨_, _, ok_tune_set FTs T OCp, gTs, FTs.kp, bTs⟩
  have OUs : Ok P w K mg base CX0 (1) "_law_units" _ (spUs (He.ga K "Moment")) := ⟨_, _, ok_units FUs T, gUs, FUs.kp, bUs⟩
  have OKy : Ok P w K mg base CX0 (2) "_law_key" _ (spKy (He.ga K "Mark") (He.ga K "Moment")) := ⟨_, _, ok_key FKy T TK OUs, gKy, FKy.kp, bKy⟩
  have OSm : Ok P w K mg base CX0 (1) "_law_same" _ spSm := ⟨_, _, ok_same FSm T, gSm, FSm.kp, bSm⟩
  have OBf : Ok P w K mg base CX0 (1) "_law_before" _ (spBf (He.ga K "Mark") (He.ga K "Moment")) := ⟨_, _, ok_before FBf T TK, gBf, FBf.kp, bBf⟩
  have OIr : Ok P w K mg base CX0 (2) "_law_in_order" _ (spIr (He.ga K "Mark") (He.ga K "Moment")) := ⟨_, _, ok_inorder FIr T OBf, gIr, FIr.kp, bIr⟩
  have TEM : TxtE K (He.ga K "Mark") := ⟨oM.cc, oM.mo, isB_ok (c.tst 10 (f := isB "Mark") rfl)⟩
  have TMm : TxtM K (He.ga K "Mark") := ⟨oM.cc, oM.mo⟩
  have OIm : Ok P w K mg base CX0 (1) "_law_is_marks" _ (spIm (He.ga K "Mark") (He.ga K "Moment")) := ⟨_, _, ok_ismarks FIm T TK TEM, gIm, FIm.kp, bIm⟩
  have OGc : Ok P w K mg base CX0 (1) "_law_gcd" _ spGcd := ⟨_, _, ok_gcd FGc T, gGc, FGc.kp, bGc⟩
  have OLl : Ok P w K mg base CX0 (1) "_law_later" _ spLl := ⟨_, _, ok_llater FLl, gLl, FLl.kp, bLl⟩
  have OCu : Ok P w K mg base CX0 (1) "_law_cuts" _ spCu := ⟨_, _, ok_cuts FCu T, gCu, FCu.kp, bCu⟩
  have OAk : Ok P w K mg base CX0 (4) "_law_alike" _ spAk := ⟨_, _, ok_alike FAk T OGc OCu OSm OTs, gAk, FAk.kp, bAk⟩
  have OLs : Ok P w K mg base CX0 (5) "_law_least" _ spLs := ⟨_, _, ok_least FLs T OAk OLl, gLs, FLs.kp, bLs⟩
  have ORp : Ok P w K mg base CX0 (2) "_law_repeated" _ spRp := ⟨_, _, ok_repeated FRp T OLl, gRp, FRp.kp, bRp⟩
  have OHd : Ok P w K mg base CX0 (3) "_law_held" _ (spHd (He.ga K "Tune") (He.ga K "Mark") (He.ga K "Moment")) := ⟨_, _, ok_held FHd T TU' TK OKy OUs, gHd, FHd.kp, bHd⟩
  have OIi : Ok P w K mg base CX0 (1) "_law_is_int" _ spIsInt := ⟨_, _, ok_isint FIi T, gIi, FIi.kp, bIi⟩
  have GKe : FnOk P w K mg base CX0 4 _ _ _ (spKEq2 (He.ga K "Mark") (He.ga K "Moment")) := ok_keq FKE T TK TMm mEq.at_ mEq.fn GEq bEq
  exact ok_law FLaw T TU' MkT GTI bTI OCe ORo OUt OFi OSz ORp OLk OLs OIi OTs OIm OIr OHd OAk ⟨mLn.at_, mLn.fn⟩ GLn bLn ⟨mKE.at_, mKE.fn⟩ GKe bKE
end
end Mo
open PySem PySem.W PySem.Calls PyProof.Rows
set_option maxHeartbeats 0 in
theorem PySem.Challenge.cw_anytune_k10_one_form_of_tunes_holds : PySem.Challenge.rw_anytune_k10_one_form_of_tunes.Holds := by
  w_on; o_law
  refine HandSHeadRun.head_imp (r := OpenLaw.row PySem.Challenge.rw_anytune_k10_one_form_of_tunes) (q := view (OpenLaw.row PySem.Challenge.rw_anytune_k10_one_form_of_tunes).prog [0, 129]) (H := Mo.hdK) (ob := Mo.hdO) (M := 20000) (loose := Mo.nms) (d := HandSHeadRun.topDef (OpenLaw.row PySem.Challenge.rw_anytune_k10_one_form_of_tunes).prog 129) (kwd := []) Mo.hdO_eq Mo.hdRun
    (by kernel_rfl) (by kernel_rfl) (by kernel_rfl) (by rfl) (by first | assumption | decide +kernel) (by decide +kernel) ⟨rfl, rfl, rfl, rfl, rfl, by decide +kernel⟩ ?hw ?hc
  case hw => w_witness2
  case hc =>
    refine L2.walk_ofE (l := PySem.Challenge.rw_anytune_k10_one_form_of_tunes) (n := 63) (k := 21) (x := "_law_script") (CX := L2.CX0) rfl (by decide) (by kernel_rfl) ⟨rfl, by decide, by decide⟩ ?F (fun _ _ _ _ z => z)
    intro w mg fa h Y G hmg0
    obtain ⟨K, KX, c⟩ := Y
    have hmg : mg ("law" : PySem.Str) = some (.ref fa) := by
      have e : (HandSHeadRun.topDef (OpenLaw.row PySem.Challenge.rw_anytune_k10_one_form_of_tunes).prog 129).name = ("law" : PySem.Str) := by kernel_rfl
      rw [← e]
      exact hmg0
    obtain ⟨fd, hb, hF⟩ := Mo.hdFacts (P := (PySem.Challenge.rw_anytune_k10_one_form_of_tunes).prog) (w := w) KX G hmg c
    exact ⟨K, fd, Mo.spLaw K, KX, hb, fun H a ns hl _ hS => ⟨a, ns, rfl, hS, hl, fun _ => rfl⟩, hF⟩

