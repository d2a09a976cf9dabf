import PyProof.Rows.All
import Wide.All
import OpenK.AllK
import Wide.FinOn
import PyProof.EqAt
import PyProof.EqKinds
import PyProof.TupleCall
import HandS.ForMost
import HandS.Exc
import HandS.Evl
import HandS.Lambda
import HandS.Head0
import HandS.Head1
import HandS.Head2
import HandS.HeadEnd
import HandS.HeadHook1
import HandS.HeadHook2
import HandS.Head3
import HandS.TupAny
import HandS.TupMul
import HandS.Wide
import HandS.Flow
import HandS.CallSlots
import HandS.WordsExc
import HandS.IsInst
import HandS.SortInts
import PyProof.ReprRoads
import PyProof.EqLayable
import HandS.Property
import HandS.MakeKw
import HandS.Defaults
import HandS.Ends
import HandS.NoneIn
import HandS.MakeKwOnly
import HandS.SetFor
import HandS.Strs
import HandS.Style
import HandS.Conv
import HandS.Zip
import HandS.Gcd
import KE.GoesEnum
import HandS.Iter
import HandS.Star
import HandS.OwnEq
import PyProof.InstNe
import KE.GoesZip
import HandS.Rev
import KE.GoesEnumKw
import HandS.ExcInit
import HandS.TryMany
import HandS.ExcField
import KE.KExcIs
import PySem.Challenge.RW_bentthrough_k08_whole_values_of_curves
section
set_option Elab.async false
set_option linter.all false
set_option maxRecDepth 100000
set_option maxHeartbeats 4000000
namespace Mi
open PySem PySem.Spec PyProof.Rows L2
open Evl (Ex)
/-! ### what the top leaves, as this layer asks it: the definitions that a head's run needs, and nothing else (they stand first in a joined text) -/
def tysL : List String := ["NoneType", "bool", "int", "str", "list", "tuple", "dict"]
def tysQ : List String := ["int", "bool", "str", "tuple", "list"]
structure MDef where
  ad : PySem.W.Frag → Addr
  name : Str
  qual : Str
  st : Stmt
def fnAt (K : PySem.W.Frag) (a : Addr) : He.FnW := match K.lookup a with
  | some ⟨_, _, .func fd, _⟩ => some (fd.name, fd.qualname, fd.params, fd.body, fd.scope, fd.globals, fd.closure, fd.builtins)
  | _ => none
def MDef.val (d : MDef) : He.FnW := some (d.name, d.qual, defArgs d.st, .stmts (defBody d.st), defScope d.st, mainGlobals, [], builtinsNs)
def MDef.ok (K : PySem.W.Frag) (d : MDef) : Bool := PySem.W.keepIn K (.ref (d.ad K)) && (match K.lookup (d.ad K) with
  | some ⟨_, _, .func fd, _⟩ => PySem.W.codeIn K fd.code d.qual && (He.dflB K fd.defaults [] && He.kwdB K fd.kwdefaults [])
  | _ => false)
abbrev AlM : Type := Bool × List He.FnW
def obsM (ex : PySem.W.Frag → Bool) (ds : List MDef) (K : PySem.W.Frag) : AlM := (ex K && ds.all fun d => d.ok K, ds.map fun d => fnAt K (d.ad K))
def valM (ds : List MDef) : AlM := (true, ds.map MDef.val)
def SaysM (ex : PySem.W.Frag → Bool) (ds : List MDef) (K : PySem.W.Frag) : Prop := obsM ex ds K = valM ds
def obsMG (n : Nat) (ex : PySem.W.Frag → Bool) (ds : List MDef) (g : Addr → Option Obj) : AlM := obsM ex ds (He.frG g (He.asD g n))
def hookM (n : Nat) (ex : PySem.W.Frag → Bool) (ds : List MDef) : PySem.W.Hook where
  α := AlM
  obs := fun s => obsMG n ex ds s.heap.get?
  val := fun _ => valM ds
  says := fun _ h => ∃ K : PySem.W.Frag, K.In h ∧ SaysM ex ds K
  of := fun _ _ e => ⟨_, He.frG_in, e⟩
  keeps := fun _ _ _ z k => let ⟨K, hK, c⟩ := z; ⟨K, PySem.W.Frag.In.keeps hK k, c⟩
theorem obsMG_eq {n : Nat} {ex : PySem.W.Frag → Bool} {ds : List MDef} {g : Addr → Option Obj} {s : Shared} (h : ∀ a, g a = s.heap.get? a) : obsMG n ex ds g = (hookM n ex ds).obs s := by
  have e : g = s.heap.get? := funext h
  subst e
  rfl
def gtA (K : PySem.W.Frag) (p : Addr) : Addr := match PySem.W.recIn K p "property" with
  | some (.ref g :: _) => g
  | _ => 0
def propB (K : PySem.W.Frag) (C : Addr) (f : Str) : Bool := He.eqO (PySem.W.findIn K (.ref C) f) (some (some (.ref (He.ma K C f)))) && (decide (PySem.W.specialIn K (.ref (He.ma K C f)) "__get__" = some (some (.builtin "property.__get__"))) &&
  (decide (PySem.W.takesIn K (.ref (He.ma K C f)) = some true) && match PySem.W.recIn K (He.ma K C f) "property" with
    | some (.ref _ :: _) => true
    | _ => false))
def insB (K : PySem.W.Frag) (x : Str) : Bool := (He.Fa.cls x).ok K && (decide (PySem.W.findIn K (.ref (He.ga K x)) "__class__" = some (some (.builtin "object.__class__"))) && (decide (PySem.W.specialIn K (.builtin "object.__class__") "__get__" = some (some (.builtin "getset_descriptor.__get__"))) &&
  (decide (PySem.W.takesIn K (.builtin "object.__class__") = some true) && decide (PySem.W.mroIn K (He.ga K x) (.type "object") = some true))))
def tabB (K : PySem.W.Frag) (xs : List Str) : Bool := (xs.all fun x => insB K x) && ((xs.all fun x => tysL.all fun a => decide (PySem.W.kitOne K (.type a) (.ref (He.ga K x)) = some false)) && ((xs.all fun x => tysQ.all fun b => decide (PySem.W.kitOne K (.ref (He.ga K x)) (.type b) = some false)) &&
  (xs.all fun x => xs.all fun y => decide (PySem.W.kitOne K (.ref (He.ga K x)) (.ref (He.ga K y)) = some (x == y)))))
def bfB (K : PySem.W.Frag) (x : Str) (id : String) : Bool := decide (PySem.W.nsIn K mainGlobals x = some (some (.builtin id)))
def eqB (K : PySem.W.Frag) (C : Addr) (xs : List Str) : Bool := (tysL.all fun a => PySem.W.notFirst K C (.type a)) && ((xs.all fun y => PySem.W.notFirst K C (.ref (He.ga K y))) && (He.eqO (PySem.W.findIn K (.ref C) "__ne__") (some (some (.builtin "object.__ne__"))) && (decide (PySem.W.subIn K (.ref C) (.type "object") = some true) &&
  (He.eqO (PySem.W.findIn K (.ref C) "__bool__") (some none) && He.eqO (PySem.W.findIn K (.ref C) "__len__") (some none)))))
def gaN (K : PySem.W.Frag) (xs : List (Str × List Str)) (c : Nat) : Addr := He.ga K (xs.getD c ("", [])).1
def kitB3 (K : PySem.W.Frag) (xs : List (Str × List Str)) (l : List (Nat × Nat × Bool)) : Bool := l.all fun t => decide (PySem.W.kitOne K (.ref (gaN K xs t.1)) (.ref (gaN K xs t.2.1)) = some t.2.2)
def kitT3 (K : PySem.W.Frag) (xs : List (Str × List Str)) (l : List (Nat × String × Bool)) : Bool := l.all fun t => decide (PySem.W.kitOne K (.ref (gaN K xs t.1)) (.type t.2.1) = some t.2.2)
def exmB3 (K : PySem.W.Frag) (xs : List (Str × List Str)) (y : Nat) (l : List (Nat × Nat × Bool)) : Bool := l.all fun t => decide (PySem.W.exmOne K (.ref (gaN K xs t.1)) (.ref (gaN K xs y)) = some t.2.2)
end Mi
end
section
set_option Elab.async false
set_option linter.all false
set_option maxRecDepth 100000
set_option maxHeartbeats 4000000
namespace Go
open PySem PySem.Spec PyProof.Rows L2 Mi
open Evl (Ex)
def clsB : Stmt → List Stmt
  | .ClassDef (body := b) .. => b
  | _ => []
def topS (i : Nat) : Stmt := PySem.Challenge.pw_bentthrough_k08_whole_values_of_curves.main.body.getD i (.Pass ⟨0, 0, 0, 0⟩)
abbrev methS (i j : Nat) : Stmt := (clsB (topS i)).getD j (.Pass ⟨0, 0, 0, 0⟩)
abbrev s_is_integer : Stmt := topS 12
abbrev s_is_integer_within : Stmt := topS 13
abbrev s__knot_fits : Stmt := topS 26
abbrev s__check_knots : Stmt := topS 25
abbrev s_Frame___init__ : Stmt := methS 24 0
abbrev s_check_frame : Stmt := topS 28
abbrev s_Frame_hills : Stmt := methS 24 4
abbrev s_is_fraction : Stmt := topS 15
abbrev s_check_amounts : Stmt := topS 38
abbrev s_Curve___init__ : Stmt := methS 37 0
abbrev s_check_place : Stmt := topS 30
abbrev s_reduced : Stmt := topS 16
abbrev s_plus : Stmt := topS 17
abbrev s_times : Stmt := topS 18
abbrev s_sum_of_products : Stmt := topS 19
abbrev s__flat_value : Stmt := topS 33
abbrev s__part : Stmt := topS 35
abbrev s__bent_value : Stmt := topS 34
abbrev s__values_over : Stmt := topS 32
abbrev s_Frame_degree : Stmt := methS 24 2
abbrev s_Frame_knots : Stmt := methS 24 3
abbrev s_values_at : Stmt := topS 31
abbrev s_Curve_value : Stmt := methS 37 3
abbrev s__law_sip : Stmt := topS 41
abbrev s__law_pick : Stmt := topS 42
abbrev s__law_draft : Stmt := topS 50
abbrev s__law_gcd : Stmt := topS 43
abbrev s__law_low : Stmt := topS 44
abbrev s__law_amounts : Stmt := topS 54
abbrev s_Frame___eq__ : Stmt := methS 24 6
abbrev s_Curve___eq__ : Stmt := methS 37 4
abbrev s__law_sites : Stmt := topS 53
abbrev s__law_made : Stmt := topS 51
abbrev s__law_hills : Stmt := topS 52
abbrev s_Curve_frame : Stmt := methS 37 1
abbrev s_Curve_amounts : Stmt := methS 37 2
abbrev s__law_mult : Stmt := topS 46
abbrev s__law_plus : Stmt := topS 45
abbrev s__law_bump : Stmt := topS 48
abbrev s__law_row : Stmt := topS 49
abbrev s__law_dot : Stmt := topS 47
abbrev s__law_right : Stmt := topS 55
abbrev s__law_mug : Stmt := topS 40
abbrev s_law : Stmt := topS 56
def xs0 : List (Str × List Str) := [(Str.ofString "Frame", [Str.ofString "_degree", Str.ofString "_knots"]), (Str.ofString "Curve", [Str.ofString "_frame", Str.ofString "_amounts"])]
def xs1 : List (Str × List Str) := [(Str.ofString "NotRight", []), (Str.ofString "InvalidText", [Str.ofString "given"]), (Str.ofString "InvalidNumber", [Str.ofString "given"]), (Str.ofString "InvalidDegree", [Str.ofString "given"]), (Str.ofString "NotAFrame", [Str.ofString "given"]), (Str.ofString "InvalidKnots", [Str.ofString "index"]), (Str.ofString "InvalidAmounts", [Str.ofString "index"])]
abbrev xs : List (Str × List Str) := xs0 ++ xs1
def mds : List MDef := [⟨fun K => He.ga K (Str.ofString "is_integer"), "is_integer", "is_integer", s_is_integer⟩,
  ⟨fun K => He.ga K (Str.ofString "is_integer_within"), "is_integer_within", "is_integer_within", s_is_integer_within⟩,
  ⟨fun K => He.ga K (Str.ofString "_knot_fits"), "_knot_fits", "_knot_fits", s__knot_fits⟩,
  ⟨fun K => He.ga K (Str.ofString "_check_knots"), "_check_knots", "_check_knots", s__check_knots⟩,
  ⟨fun K => He.ma K (He.ga K (Str.ofString "Frame")) (Str.ofString "__init__"), "__init__", "Frame.__init__", s_Frame___init__⟩,
  ⟨fun K => He.ga K (Str.ofString "check_frame"), "check_frame", "check_frame", s_check_frame⟩,
  ⟨fun K => gtA K (He.ma K (He.ga K (Str.ofString "Frame")) (Str.ofString "hills")), "hills", "Frame.hills", s_Frame_hills⟩,
  ⟨fun K => He.ga K (Str.ofString "is_fraction"), "is_fraction", "is_fraction", s_is_fraction⟩,
  ⟨fun K => He.ga K (Str.ofString "check_amounts"), "check_amounts", "check_amounts", s_check_amounts⟩,
  ⟨fun K => He.ma K (He.ga K (Str.ofString "Curve")) (Str.ofString "__init__"), "__init__", "Curve.__init__", s_Curve___init__⟩,
  ⟨fun K => He.ga K (Str.ofString "check_place"), "check_place", "check_place", s_check_place⟩,
  ⟨fun K => He.ga K (Str.ofString "reduced"), "reduced", "reduced", s_reduced⟩,
  ⟨fun K => He.ga K (Str.ofString "plus"), "plus", "plus", s_plus⟩,
  ⟨fun K => He.ga K (Str.ofString "times"), "times", "times", s_times⟩,
  ⟨fun K => He.ga K (Str.ofString "sum_of_products"), "sum_of_products", "sum_of_products", s_sum_of_products⟩,
  ⟨fun K => He.ga K (Str.ofString "_flat_value"), "_flat_value", "_flat_value", s__flat_value⟩,
  ⟨fun K => He.ga K (Str.ofString "_part"), "_part", "_part", s__part⟩,
  ⟨fun K => He.ga K (Str.ofString "_bent_value"), "_bent_value", "_bent_value", s__bent_value⟩,
  ⟨fun K => He.ga K (Str.ofString "_values_over"), "_values_over", "_values_over", s__values_over⟩,
  ⟨fun K => gtA K (He.ma K (He.ga K (Str.ofString "Frame")) (Str.ofString "degree")), "degree", "Frame.degree", s_Frame_degree⟩,
  ⟨fun K => gtA K (He.ma K (He.ga K (Str.ofString "Frame")) (Str.ofString "knots")), "knots", "Frame.knots", s_Frame_knots⟩,
  ⟨fun K => He.ga K (Str.ofString "values_at"), "values_at", "values_at", s_values_at⟩,
  ⟨fun K => He.ma K (He.ga K (Str.ofString "Curve")) (Str.ofString "value"), "value", "Curve.value", s_Curve_value⟩,
  ⟨fun K => He.ga K (Str.ofString "_law_sip"), "_law_sip", "_law_sip", s__law_sip⟩,
  ⟨fun K => He.ga K (Str.ofString "_law_pick"), "_law_pick", "_law_pick", s__law_pick⟩,
  ⟨fun K => He.ga K (Str.ofString "_law_draft"), "_law_draft", "_law_draft", s__law_draft⟩,
  ⟨fun K => He.ga K (Str.ofString "_law_gcd"), "_law_gcd", "_law_gcd", s__law_gcd⟩,
  ⟨fun K => He.ga K (Str.ofString "_law_low"), "_law_low", "_law_low", s__law_low⟩,
  ⟨fun K => He.ga K (Str.ofString "_law_amounts"), "_law_amounts", "_law_amounts", s__law_amounts⟩,
  ⟨fun K => He.ma K (He.ga K (Str.ofString "Frame")) (Str.ofString "__eq__"), "__eq__", "Frame.__eq__", s_Frame___eq__⟩,
  ⟨fun K => He.ma K (He.ga K (Str.ofString "Curve")) (Str.ofString "__eq__"), "__eq__", "Curve.__eq__", s_Curve___eq__⟩,
  ⟨fun K => He.ga K (Str.ofString "_law_sites"), "_law_sites", "_law_sites", s__law_sites⟩,
  ⟨fun K => He.ga K (Str.ofString "_law_made"), "_law_made", "_law_made", s__law_made⟩,
  ⟨fun K => He.ga K (Str.ofString "_law_hills"), "_law_hills", "_law_hills", s__law_hills⟩,
  ⟨fun K => gtA K (He.ma K (He.ga K (Str.ofString "Curve")) (Str.ofString "frame")), "frame", "Curve.frame", s_Curve_frame⟩,
  ⟨fun K => gtA K (He.ma K (He.ga K (Str.ofString "Curve")) (Str.ofString "amounts")), "amounts", "Curve.amounts", s_Curve_amounts⟩,
  ⟨fun K => He.ga K (Str.ofString "_law_mult"), "_law_mult", "_law_mult", s__law_mult⟩,
  ⟨fun K => He.ga K (Str.ofString "_law_plus"), "_law_plus", "_law_plus", s__law_plus⟩,
  ⟨fun K => He.ga K (Str.ofString "_law_bump"), "_law_bump", "_law_bump", s__law_bump⟩,
  ⟨fun K => He.ga K (Str.ofString "_law_row"), "_law_row", "_law_row", s__law_row⟩,
  ⟨fun K => He.ga K (Str.ofString "_law_dot"), "_law_dot", "_law_dot", s__law_dot⟩,
  ⟨fun K => He.ga K (Str.ofString "_law_right"), "_law_right", "_law_right", s__law_right⟩,
  ⟨fun K => He.ga K (Str.ofString "_law_mug"), "_law_mug", "_law_mug", s__law_mug⟩,
  ⟨fun K => He.ga K (Str.ofString "law"), "law", "law", s_law⟩]
def fas : List He.Fa := [.glo (Str.ofString "is_integer"),
  .free (Str.ofString "bool"),
  .free (Str.ofString "int"),
  .free (Str.ofString "isinstance"),
  .glo (Str.ofString "is_integer_within"),
  .glo (Str.ofString "_knot_fits"),
  .int (Str.ofString "MOST_HILLS") 10,
  .int (Str.ofString "MOST_KNOT") 1000000,
  .glo (Str.ofString "_check_knots"),
  .free (Str.ofString "len"),
  .free (Str.ofString "range"),
  .free (Str.ofString "tuple"),
  .int (Str.ofString "MOST_DEGREE") 4,
  .glo (Str.ofString "check_frame"),
  .glo (Str.ofString "is_fraction"),
  .glo (Str.ofString "check_amounts"),
  .free (Str.ofString "enumerate"),
  .glo (Str.ofString "check_place"),
  .glo (Str.ofString "reduced"),
  .glo (Str.ofString "plus"),
  .glo (Str.ofString "times"),
  .glo (Str.ofString "sum_of_products"),
  .free (Str.ofString "zip"),
  .glo (Str.ofString "ZERO"),
  .glo (Str.ofString "_flat_value"),
  .glo (Str.ofString "ONE"),
  .glo (Str.ofString "_part"),
  .glo (Str.ofString "_bent_value"),
  .glo (Str.ofString "_values_over"),
  .glo (Str.ofString "values_at"),
  .meth (Str.ofString "Curve") (Str.ofString "value"),
  .glo (Str.ofString "_law_sip"),
  .glo (Str.ofString "_law_pick"),
  .glo (Str.ofString "_law_draft"),
  .free (Str.ofString "sorted"),
  .glo (Str.ofString "_law_gcd"),
  .free (Str.ofString "abs"),
  .glo (Str.ofString "_law_low"),
  .glo (Str.ofString "_law_amounts"),
  .meth (Str.ofString "Frame") (Str.ofString "__eq__"),
  .meth (Str.ofString "Curve") (Str.ofString "__eq__"),
  .glo (Str.ofString "_law_sites"),
  .free (Str.ofString "list"),
  .free (Str.ofString "max"),
  .free (Str.ofString "set"),
  .glo (Str.ofString "_law_made"),
  .glo (Str.ofString "_law_hills"),
  .glo (Str.ofString "_law_mult"),
  .glo (Str.ofString "_law_plus"),
  .glo (Str.ofString "_law_bump"),
  .glo (Str.ofString "_law_row"),
  .glo (Str.ofString "_law_dot"),
  .glo (Str.ofString "_law_right"),
  .free (Str.ofString "repr"),
  .glo (Str.ofString "_law_mug"),
  .glo (Str.ofString "law"),
  .free (Str.ofString "all"),
  .free (Str.ofString "min"),
  .glo (Str.ofString "Frame"),
  .cls (Str.ofString "Frame"),
  .mkr (Str.ofString "Frame"),
  .noat (Str.ofString "Frame") (Str.ofString "_degree"),
  .noat (Str.ofString "Frame") (Str.ofString "_knots"),
  .glo (Str.ofString "Curve"),
  .cls (Str.ofString "Curve"),
  .mkr (Str.ofString "Curve"),
  .noat (Str.ofString "Curve") (Str.ofString "_frame"),
  .noat (Str.ofString "Curve") (Str.ofString "_amounts")]
def xB (K : PySem.W.Frag) : Bool := true
def exB (K : PySem.W.Frag) : Bool := xB K && ((fas.all fun f => f.ok K) && (tabB K (xs0.map (·.1)) && ((true && propB K (He.ga K (Str.ofString "Frame")) (Str.ofString "hills") && propB K (He.ga K (Str.ofString "Frame")) (Str.ofString "degree") && propB K (He.ga K (Str.ofString "Frame")) (Str.ofString "knots") && propB K (He.ga K (Str.ofString "Curve")) (Str.ofString "frame") && propB K (He.ga K (Str.ofString "Curve")) (Str.ofString "amounts")) && (true && bfB K (Str.ofString "gcd") "math.gcd" && He.tupB K (Str.ofString "ZERO") [.int 0, .int 1] && He.tupB K (Str.ofString "ONE") [.int 1, .int 1] && eqB K (He.ga K (Str.ofString "Frame")) (xs.map (·.1)) && eqB K (He.ga K (Str.ofString "Curve")) (xs.map (·.1))))))
def loose0 : List PySem.Str := [Str.ofString "NotRight", Str.ofString "InvalidText", Str.ofString "InvalidNumber", Str.ofString "InvalidDegree", Str.ofString "NotAFrame", Str.ofString "InvalidKnots", Str.ofString "InvalidAmounts", Str.ofString "ZERO", Str.ofString "ONE", Str.ofString "is_integer", Str.ofString "is_integer_within", Str.ofString "plain_number", Str.ofString "is_fraction", Str.ofString "reduced", Str.ofString "plus", Str.ofString "times", Str.ofString "sum_of_products", Str.ofString "MOST_DEGREE", Str.ofString "MOST_KNOT", Str.ofString "MOST_HILLS"]
def loose1 : List PySem.Str := [Str.ofString "Frame", Str.ofString "_check_knots", Str.ofString "_knot_fits", Str.ofString "_numbers_told", Str.ofString "check_frame", Str.ofString "check_place", Str.ofString "values_at", Str.ofString "_values_over", Str.ofString "_flat_value", Str.ofString "_bent_value", Str.ofString "_part", Str.ofString "Curve", Str.ofString "check_amounts", Str.ofString "_law_mug", Str.ofString "_law_sip", Str.ofString "_law_pick", Str.ofString "_law_gcd", Str.ofString "_law_low", Str.ofString "_law_plus", Str.ofString "_law_mult"]
def loose2 : List PySem.Str := [Str.ofString "_law_dot", Str.ofString "_law_bump", Str.ofString "_law_row", Str.ofString "_law_draft", Str.ofString "_law_made", Str.ofString "_law_hills", Str.ofString "_law_sites", Str.ofString "_law_amounts", Str.ofString "_law_right"]
abbrev R : PySem.W.OpenRow := PySem.W.OpenLaw.row PySem.Challenge.rw_bentthrough_k08_whole_values_of_curves
abbrev hk : PySem.W.Hook := hookM 6 exB mds
def ob (s : PySem.W.SharedT) : AlM := obsMG 6 exB mds (HandSHeadRun.getT s)
theorem ob_eq (s : PySem.W.SharedT) : ob s = hk.obs s.abs := obsMG_eq (HandSHeadRun.getT_eq s)
theorem run (w : World) : HandSHeadRun.RunEqI R (PySem.W.view R.prog [0, 56]) hk ob 6000 (loose0 ++ loose1 ++ loose2) w := by
  unfold HandSHeadRun.RunEqI
  kernel_rfl
end Go
end
section
set_option Elab.async false
set_option linter.all false
set_option maxRecDepth 100000
set_option maxHeartbeats 4000000
namespace Mi
open PySem PySem.Spec PyProof.Rows L2
open Evl (Ex)

/-! data without addresses -/
inductive D where
  | non
  | bl (b : Bool)
  | int (i : Int)
  | str (x : Str)
  | lst (ds : List D)
  | tup (ds : List D)
  | ins (c : Nat) (ds : List D)
  | mug
  | scr (ns : List Int)
  | ty (n : String)
  | cls (c : Nat)
  | exc (c : Nat) (ds : List D)
  | emp

/-- what the classes are: their addresses, their fields -/
structure Cl where
  K : PySem.W.Frag
  ca : Nat → Addr
  fn : Nat → List Str
  /-- tables of code objects -/
  T : List (Addr × Str) := []
  /-- the exception in hand, its dict -/
  xa : Option (Addr × Addr × Nat × List V) := none

mutual
inductive Rp (G : Cl) (F : Hp) (am : Addr) : V → D → Prop
  | non : Rp G F am .non .non
  | bl (b : Bool) : Rp G F am (.bl b) (.bl b)
  | int (i : Int) : Rp G F am (.int i) (.int i)
  | str (x : Str) : Rp G F am (.str x) (.str x)
  | lst {a : Addr} {xs : List V} {ds : List D} : F a = some (.lst xs) → RpAll G F am xs ds → Rp G F am (.ref a) (.lst ds)
  | tup {a : Addr} {xs : List V} {ds : List D} : SqT G.K F a xs → RpAll G F am xs ds → Rp G F am (.ref a) (.tup ds)
  | ins {a dx : Addr} {c : Nat} {xs : List V} {ds : List D} : F a = some (.ins (G.ca c) dx ((G.fn c).zip xs)) → (G.fn c).length = xs.length → RpAll G F am xs ds → Rp G F am (.ref a) (.ins c ds)
  | mug : Rp G F am (.ref am) .mug
  | scr {a : Addr} {ns : List Int} : SqL G.K F a (ns.map V.int) → Rp G F am (.ref a) (.scr ns)
  | ty (n : String) : Rp G F am (.ty n) (.ty n)
  | cls (c : Nat) : Rp G F am (.ref (G.ca c)) (.cls c)
  | exc {a dd : Addr} {c : Nat} {xs : List V} {ds : List D} : G.xa = some (a, dd, c, xs) → (G.fn c).length = xs.length → RpAll G F am xs ds → Rp G F am (.ref a) (.exc c ds)
  | emp {a : Addr} : F a = some (.dK []) → Rp G F am (.ref a) .emp
inductive RpAll (G : Cl) (F : Hp) (am : Addr) : List V → List D → Prop
  | nil : RpAll G F am [] []
  | cons {v : V} {vs : List V} {d : D} {ds : List D} : Rp G F am v d → RpAll G F am vs ds → RpAll G F am (v :: vs) (d :: ds)
end

section
variable {G : Cl} {F F' H H' : Hp} {am : Addr}
mutual
theorem Rp.mono (e : Ex F F') : ∀ {v : V} {d : D}, Rp G F am v d → Rp G F' am v d
  | _, _, .non => .non
  | _, _, .bl b => .bl b
  | _, _, .int i => .int i
  | _, _, .str x => .str x
  | _, _, .lst h r => .lst (e _ _ h) (RpAll.mono e r)
  | _, _, .tup h r => .tup (Evl.ex_t e h) (RpAll.mono e r)
  | _, _, .ins h l r => .ins (e _ _ h) l (RpAll.mono e r)
  | _, _, .mug => .mug
  | _, _, .scr h => .scr (Evl.ex_l e h)
  | _, _, .ty n => .ty n
  | _, _, .cls c => .cls c
  | _, _, .exc x l r => .exc x l (RpAll.mono e r)
  | _, _, .emp h => .emp (e _ _ h)
theorem RpAll.mono (e : Ex F F') : ∀ {vs : List V} {ds : List D}, RpAll G F am vs ds → RpAll G F' am vs ds
  | _, _, .nil => .nil
  | _, _, .cons h r => .cons (Rp.mono e h) (RpAll.mono e r)
end
theorem RpAll.length : ∀ {vs : List V} {ds : List D}, RpAll G F am vs ds → vs.length = ds.length
  | _, _, .nil => rfl
  | _, _, .cons _ r => congrArg (· + 1) (RpAll.length r)
theorem RpAll.get : ∀ {vs : List V} {ds : List D} {i : Nat} {d : D}, RpAll G F am vs ds → ds[i]? = some d → ∃ v, vs[i]? = some v ∧ Rp G F am v d
  | _, _, _, _, .nil, e => by simp at e
  | _, _, 0, _, .cons h _, e => by
    simp at e
    subst e
    exact ⟨_, rfl, h⟩
  | _, _, i + 1, _, .cons _ r, e => by
    obtain ⟨v, h1, h2⟩ := RpAll.get (i := i) r (by simpa using e)
    exact ⟨v, by simpa using h1, h2⟩
theorem RpAll.getV : ∀ {vs : List V} {ds : List D} {i : Nat} {v : V}, RpAll G F am vs ds → vs[i]? = some v → ∃ d, ds[i]? = some d ∧ Rp G F am v d
  | _, _, _, _, .nil, e => by simp at e
  | _, _, 0, _, .cons h _, e => by
    simp at e
    subst e
    exact ⟨_, rfl, h⟩
  | _, _, i + 1, _, .cons _ r, e => by
    obtain ⟨v, h1, h2⟩ := RpAll.getV (i := i) r (by simpa using e)
    exact ⟨v, by simpa using h1, h2⟩
theorem RpAll.append : ∀ {vs ws : List V} {ds es : List D}, RpAll G F am vs ds → RpAll G F am ws es → RpAll G F am (vs ++ ws) (ds ++ es)
  | _, _, _, _, .nil, q => q
  | _, _, _, _, .cons h r, q => .cons h (RpAll.append r q)
theorem RpAll.set {v : V} {d : D} (h : Rp G F am v d) : ∀ {vs : List V} {ds : List D} (i : Nat), RpAll G F am vs ds → RpAll G F am (vs.set i v) (ds.set i d)
  | _, _, _, .nil => .nil
  | _, _, 0, .cons _ r => .cons h r
  | _, _, i + 1, .cons q r => .cons q (RpAll.set h i r)
theorem RpAll.take : ∀ {vs : List V} {ds : List D} (n : Nat), RpAll G F am vs ds → RpAll G F am (vs.take n) (ds.take n)
  | _, _, 0, _ => .nil
  | _, _, _ + 1, .nil => .nil
  | _, _, n + 1, .cons h r => .cons h (RpAll.take n r)
theorem RpAll.drop : ∀ {vs : List V} {ds : List D} (n : Nat), RpAll G F am vs ds → RpAll G F am (vs.drop n) (ds.drop n)
  | _, _, 0, r => r
  | _, _, _ + 1, .nil => .nil
  | _, _, n + 1, .cons _ r => RpAll.drop n r
theorem RpAll.reverse {vs : List V} {ds : List D} (r : RpAll G F am vs ds) : RpAll G F am vs.reverse ds.reverse := by
  induction vs generalizing ds with
  | nil =>
    cases r
    exact .nil
  | cons v vs ih =>
    cases r with
    | cons h r =>
      rw [List.reverse_cons, List.reverse_cons]
      exact (ih r).append (.cons h .nil)
theorem RpAll.ints : ∀ {vs : List V} {ns : List Int}, RpAll G F am vs (ns.map D.int) → vs = ns.map V.int
  | [], [], _ => rfl
  | _, [], .nil => rfl
  | _, _ :: _, .cons h r => by
    cases h
    rw [RpAll.ints r]
    rfl
theorem RpAll.of_ints : ∀ ns : List Int, RpAll G F am (ns.map V.int) (ns.map D.int)
  | [] => .nil
  | n :: ns => .cons (.int n) (RpAll.of_ints ns)
theorem RpAll.bls : ∀ {vs : List V} {ns : List Bool}, RpAll G F am vs (ns.map D.bl) → vs = ns.map V.bl
  | _, [], .nil => rfl
  | _, _ :: _, .cons h r => by
    cases h
    rw [RpAll.bls r]
    rfl
end

/-- the ground: tables of code objects; the dict of the exception in hand -/
def Xd (G : Cl) (H : Hp) : Prop := ∀ a dd c xs, G.xa = some (a, dd, c, xs) → H dd = some (.xd ((G.fn c).zip xs))
def Gd (G : Cl) (H : Hp) : Prop := LamX.Tabs G.T H ∧ Xd G H
/-- .. stays -/
def Gs (G : Cl) (H H' : Hp) : Prop := (LamX.Tabs G.T H → LamX.Tabs G.T H') ∧ (Xd G H → Xd G H')
theorem Gs.rfl' {G : Cl} {H : Hp} : Gs G H H := ⟨id, id⟩
theorem Gs.tr {G : Cl} {H H1 H2 : Hp} (a : Gs G H H1) (b : Gs G H1 H2) : Gs G H H2 := ⟨fun z => b.1 (a.1 z), fun z => b.2 (a.2 z)⟩
theorem Gs.gd {G : Cl} {H H1 : Hp} (a : Gs G H H1) (z : Gd G H) : Gd G H1 := ⟨a.1 z.1, a.2 z.2⟩
theorem Gd.gs {G : Cl} {H H1 : Hp} (z : Gd G H1) : Gs G H H1 := ⟨fun _ => z.1, fun _ => z.2⟩
theorem gd_new {G : Cl} {H : Hp} {p : Addr} {o : HO} (n : H p = none) : Gs G H (upd H p o) :=
  ⟨fun t => t.ext fun b u e => by rw [upd_ne (ne_of_none e n)]; exact e, fun t a dd c xs h => by
    have e := t a dd c xs h
    rw [upd_ne (ne_of_none e n)]
    exact e⟩
theorem gd_chg {G : Cl} {H : Hp} {p : Addr} {o u : HO} (h : H p = some u) (h1 : ∀ ps, u ≠ .tbl ps) (h2 : ∀ φ, u ≠ .ext φ) (h3 : ∀ fs, u ≠ .xd fs) : Gs G H (upd H p o) := by
  refine ⟨fun t z hz => ?_, fun t a dd c xs hx => ?_⟩
  · obtain ⟨ps, g1, g2, g3⟩ := t z hz
    refine ⟨ps, by rw [upd_ne (fun q => by rw [q, h] at g1; cases g1; exact h1 _ rfl)]; exact g1, g2, fun pos cv hc => ?_⟩
    obtain ⟨c, e1, e2⟩ := g3 pos cv hc
    refine ⟨c, e1, ?_⟩
    rw [upd_ne (fun q => by rw [q, h] at e2; cases e2; exact h2 _ rfl)]
    exact e2
  · have e := t a dd c xs hx
    rw [upd_ne (fun q => by rw [q, h] at e; cases e; exact h3 _ rfl)]
    exact e

/-! ### the state: frozen part F of H, the mug at am, slots -/
/-- what one slot alone has: a list, an instance whose fields are set so far -/
inductive Ow where
  | lst (ds : List D)
  | ins (c : Nat) (ds : List D)
inductive Slot where
  | no
  | va (d : D)
  | ow (w : Ow)
def OwOk (G : Cl) (F : Hp) (am : Addr) (o : HO) : Ow → Prop
  | .lst ds => ∃ xs, o = .lst xs ∧ RpAll G F am xs ds
  | .ins c ds => ∃ dx xs, o = .ins (G.ca c) dx (((G.fn c).take ds.length).zip xs) ∧ ds.length ≤ (G.fn c).length ∧ RpAll G F am xs ds
theorem OwOk.mono {G : Cl} {F F' : Hp} {am : Addr} {o : HO} {w : Ow} (e : Ex F F') (h : OwOk G F am o w) : OwOk G F' am o w := by
  cases w with
  | lst ds =>
    obtain ⟨xs, h1, h2⟩ := h
    exact ⟨xs, h1, h2.mono e⟩
  | ins c ds =>
    obtain ⟨dx, xs, h1, h2, h3⟩ := h
    exact ⟨dx, xs, h1, h2, h3.mono e⟩
theorem OwOk.nx {G : Cl} {F : Hp} {am : Addr} {o : HO} {w : Ow} (h : OwOk G F am o w) : ∀ fs, o ≠ .xd fs := by
  intro ps z
  subst z
  cases w with
  | lst ds =>
    obtain ⟨xs, h1, _⟩ := h
    cases h1
  | ins c ds =>
    obtain ⟨dx, xs, h1, _⟩ := h
    cases h1
theorem OwOk.ne {G : Cl} {F : Hp} {am : Addr} {o : HO} {w : Ow} (h : OwOk G F am o w) : ∀ φ, o ≠ .ext φ := by
  intro ps z
  subst z
  cases w with
  | lst ds =>
    obtain ⟨xs, h1, _⟩ := h
    cases h1
  | ins c ds =>
    obtain ⟨dx, xs, h1, _⟩ := h
    cases h1
abbrev Mu := Option (List D)
def MR (G : Cl) (H F : Hp) (am : Addr) : Mu → Prop
  | none => True
  | some ds => F am = none ∧ ∃ xs, H am = some (.lst xs) ∧ RpAll G F am xs ds

/-- from H, F to H', F': what was stands; the mug may have changed -/
structure Post (G : Cl) (am : Addr) (mu : Mu) (H F : Hp) (mu' : Mu) (H' F' : Hp) : Prop where
  keep : ∀ a o, (mu = none ∨ a ≠ am) → H a = some o → ∃ o', H' a = some o' ∧ ((∀ ps, o ≠ .tbl ps) → o' = o)
  fF : Ex F F'
  sub : Ex F' H'
  new : ∀ a, F' a ≠ none → F a ≠ none ∨ H a = none
  mr : MR G H' F' am mu'
  mm : mu = none ↔ mu' = none
  tb : Gs G H H'
theorem Post.kept {G : Cl} {am : Addr} {mu : Mu} {H F : Hp} {mu' : Mu} {H' F' : Hp} (q : Post G am mu H F mu' H' F') {a : Addr} {o : HO} (h : mu = none ∨ a ≠ am) (e : H a = some o) (n : ∀ ps, o ≠ .tbl ps) : H' a = some o := by
  obtain ⟨o', e', z⟩ := q.keep a o h e
  rw [e', z n]
theorem Post.there {G : Cl} {am : Addr} {mu : Mu} {H F : Hp} {mu' : Mu} {H' F' : Hp} (q : Post G am mu H F mu' H' F') {a : Addr} {o : HO} (h : mu = none ∨ a ≠ am) (e : H a = some o) : ∃ o', H' a = some o' := by
  obtain ⟨o', e', _⟩ := q.keep a o h e
  exact ⟨o', e'⟩
theorem Post.tr {G : Cl} {am : Addr} {m1 m2 m3 : Mu} {H1 F1 H2 F2 H3 F3 : Hp} (a : Post G am m1 H1 F1 m2 H2 F2) (b : Post G am m2 H2 F2 m3 H3 F3) : Post G am m1 H1 F1 m3 H3 F3 where
  keep := fun x o h e => by
    obtain ⟨o1, e1, z1⟩ := a.keep x o h e
    obtain ⟨o2, e2, z2⟩ := b.keep x o1 (h.imp (fun z => a.mm.mp z) id) e1
    exact ⟨o2, e2, fun n => by
      have y := z1 n
      subst y
      exact z2 n⟩
  fF := a.fF.trans b.fF
  sub := b.sub
  new := fun x h => by
    rcases b.new x h with z | z
    · exact a.new x z
    · by_cases hx : m1 = none ∨ x ≠ am
      · right
        cases q : H1 x with
        | none => rfl
        | some o =>
          obtain ⟨o', e', _⟩ := a.keep x o hx q
          rw [e'] at z
          cases z
      · have h1 : m1 ≠ none := fun z => hx (.inl z)
        have h2 : x = am := Classical.byContradiction fun z => hx (.inr z)
        have h3 : m2 ≠ none := fun z => h1 (a.mm.mpr z)
        obtain ⟨ds, e⟩ := Option.ne_none_iff_exists'.mp h3
        have m := a.mr
        rw [e] at m
        obtain ⟨_, xs, hx2, _⟩ := m
        rw [h2, hx2] at z
        cases z
  mr := b.mr
  mm := a.mm.trans b.mm
  tb := a.tb.tr b.tb
theorem Post.trans {G : Cl} {am : Addr} {m1 m2 m3 : Mu} {H1 F1 H2 F2 H3 F3 : Hp} (s1 : Ex F1 H1) (a : Post G am m1 H1 F1 m2 H2 F2) (b : Post G am m2 H2 F2 m3 H3 F3) : Post G am m1 H1 F1 m3 H3 F3 := a.tr b
theorem Post.refl {G : Cl} {am : Addr} {m : Mu} {H F : Hp} (s : Ex F H) (h : MR G H F am m) : Post G am m H F m H F :=
  ⟨fun _ o _ e => ⟨o, e, fun _ => rfl⟩, Ex.refl F, s, fun _ h => .inl h, h, Iff.rfl, Gs.rfl'⟩

/-- the state of a def's body: H0, F0 at its entry -/
structure En where
  mu : Mu
  H : Hp
  F : Hp
  x : Addr
structure Sta (G : Cl) (am : Addr) (e0 : En) (rho : List Slot) (mu : Mu) (σ : L2.St) (H F : Hp) : Prop where
  sub : Ex F H
  len : σ.length = rho.length
  va : ∀ (i : Nat) (d : D), rho[i]? = some (Slot.va d) → ∃ v, σ[i]? = some (some v) ∧ Rp G F am v d
  ow : ∀ (i : Nat) (w : Ow), rho[i]? = some (Slot.ow w) → ∃ (a : Addr) (o : HO), σ[i]? = some (some (.ref a)) ∧ H a = some o ∧ F a = none ∧ OwOk G F am o w ∧ (mu = none ∨ a ≠ am) ∧ e0.H a = none
  dj : ∀ (i j : Nat) (ds es : Ow) (a : Addr), i ≠ j → rho[i]? = some (Slot.ow ds) → rho[j]? = some (Slot.ow es) → σ[i]? = some (some (V.ref a)) → σ[j]? ≠ some (some (V.ref a))
  oi : ∀ (i : Nat) (c : Nat) (ds : List D) (a : Addr), rho[i]? = some (Slot.ow (.ins c ds)) → σ[i]? = some (some (V.ref a)) → a = e0.x
  mr : MR G H F am mu
  keep : ∀ a o, (mu = none ∨ a ≠ am) → e0.H a = some o → ∃ o', H a = some o' ∧ ((∀ ps, o ≠ .tbl ps) → o' = o)
  fF : Ex e0.F F
  new : ∀ a, F a ≠ none → e0.F a ≠ none ∨ e0.H a = none
  mz : e0.mu = none ↔ mu = none
  tb : Gd G H
theorem OwOk.nt {G : Cl} {F : Hp} {am : Addr} {o : HO} {w : Ow} (h : OwOk G F am o w) : ∀ ps, o ≠ .tbl ps := by
  intro ps z
  subst z
  cases w with
  | lst ds =>
    obtain ⟨xs, h1, _⟩ := h
    cases h1
  | ins c ds =>
    obtain ⟨dx, xs, h1, _⟩ := h
    cases h1
section
variable {G : Cl} {am : Addr} {e0 : En} {H F H' F' : Hp} {rho : List Slot} {mu mu' : Mu} {σ : L2.St}
theorem MR.mono {m : Mu} (h : MR G H F am m) (hk : m ≠ none → F' am = none) (hf : Ex F F') (hh : ∀ xs, m ≠ none → H am = some (.lst xs) → H' am = some (.lst xs)) : MR G H' F' am m := by
  cases m with
  | none => trivial
  | some ds =>
    obtain ⟨h1, xs, h2, h3⟩ := h
    exact ⟨hk (by simp), xs, hh xs (by simp) h2, h3.mono hf⟩
/-- behind an expression -/
theorem Sta.post (s : Sta G am e0 rho mu σ H F) (p : Post G am mu H F mu' H' F') : Sta G am e0 rho mu' σ H' F' where
  sub := p.sub
  len := s.len
  va := fun i d h => let ⟨v, a, b⟩ := s.va i d h; ⟨v, a, b.mono p.fF⟩
  ow := fun i ds h => by
    obtain ⟨a, xs, h1, h2, h3, h4, h5, h6⟩ := s.ow i ds h
    refine ⟨a, xs, h1, p.kept h5 h2 h4.nt, ?_, h4.mono p.fF, h5.imp (fun z => p.mm.mp z) id, h6⟩
    cases q : F' a with
    | none => rfl
    | some o =>
      rcases p.new a (by rw [q]; simp) with z | z
      · exact absurd h3 z
      · rw [h2] at z; cases z
  dj := s.dj
  oi := s.oi
  mr := p.mr
  keep := fun a o h e => by
    obtain ⟨o1, e1, z1⟩ := s.keep a o (h.imp (fun z => p.mm.mpr z) id) e
    obtain ⟨o2, e2, z2⟩ := p.keep a o1 (h.imp (fun z => p.mm.mpr z) id) e1
    exact ⟨o2, e2, fun n => by
      have y := z1 n
      subst y
      exact z2 n⟩
  fF := s.fF.trans p.fF
  new := fun a h => by
    rcases p.new a h with z | z
    · exact s.new a z
    · right
      cases q : e0.H a with
      | none => rfl
      | some o =>
        by_cases hx : mu = none ∨ a ≠ am
        · obtain ⟨o', e', _⟩ := s.keep a o hx q
          rw [e'] at z
          cases z
        · have h1 : mu ≠ none := fun z => hx (.inl z)
          have h2 : a = am := Classical.byContradiction fun z => hx (.inr z)
          obtain ⟨ds, e⟩ := Option.ne_none_iff_exists'.mp h1
          have m := s.mr
          rw [e] at m
          obtain ⟨_, xs, hx2, _⟩ := m
          rw [h2, hx2] at z
          cases z
  mz := s.mz.trans p.mm
  tb := p.tb.gd s.tb
/-- the whole, from the entry -/
theorem Sta.whole (s : Sta G am e0 rho mu σ H F) : Post G am e0.mu e0.H e0.F mu H F :=
  ⟨fun a o h e => s.keep a o (h.imp (fun z => s.mz.mp z) id) e, s.fF, s.sub, s.new, s.mr, s.mz, s.tb.gs⟩
end

/-! ### results -/
/-- a value: frozen, or a new list that nobody else has -/
inductive Vl where
  | fz (d : D)
  | fr (ds : List D)
def Vl.d : Vl → D
  | .fz d => d
  | .fr ds => .lst ds
inductive Out (α : Type) where
  | ok (a : α)
  | ex (c : Nat) (ds : List D)
abbrev M (α : Type) := Mu → Option (Out α × Mu)
def M.pure {α : Type} (a : α) : M α := fun m => some (.ok a, m)
def M.bind {α β : Type} (f : M α) (g : α → M β) : M β := fun m => match f m with
  | none => none
  | some (.ok a, m') => g a m'
  | some (.ex c ds, m') => some (.ex c ds, m')
def M.no {α : Type} : M α := fun _ => none
def M.of {α : Type} : Option α → M α
  | some a => M.pure a
  | none => M.no
abbrev EM := List Slot → M Vl

/-- an exception's dict -/
def xdOf (G : Cl) (c : Nat) (xs : List V) : HO := .xd ((G.fn c).zip xs)
/-- what follows a value; what follows an exception -/
def Kd (G : Cl) (am : Addr) (mu : Mu) (H F : Hp) (mu' : Mu) (Q : VK) : Vl → Prop
  | .fz d => ∀ v H' F', Post G am mu H F mu' H' F' → Rp G F' am v d → Q v H'
  | .fr ds => ∀ p xs H' F', Post G am mu H F mu' H' F' → H p = none → H' p = some (.lst xs) → F' p = none → (mu = none ∨ p ≠ am) → RpAll G F' am xs ds → Q (.ref p) H'
def Kx (G : Cl) (W : WX) (σ : L2.St) (am : Addr) (mu : Mu) (H F : Hp) (mu' : Mu) (c : Nat) (ds : List D) : Prop :=
  ∀ dd xs H' F', Post G am mu H F mu' H' F' → H' dd = some (xdOf G c xs) → RpAll G F' am xs ds → W (.ref (G.ca c)) (some dd) σ H'
def Ko (G : Cl) (W : WX) (σ : L2.St) (am : Addr) (mu : Mu) (H F : Hp) (mu' : Mu) (Q : VK) : Out Vl → Prop
  | .ok vl => Kd G am mu H F mu' Q vl
  | .ex c ds => Kx G W σ am mu H F mu' c ds
/-- the reading of an expression by its meaning -/
def rd (G : Cl) (W : WX) (f : EM) : TE := fun σ H Q => ∃ (am : Addr) (e0 : En) (rho : List Slot) (mu : Mu) (F : Hp), Sta G am e0 rho mu σ H F ∧ ∃ o mu', f rho mu = some (o, mu') ∧ Ko G W σ am mu H F mu' Q o
abbrev BM := List Slot → M Bool
def KoB (G : Cl) (W : WX) (σ : L2.St) (am : Addr) (mu : Mu) (H F : Hp) (mu' : Mu) (Q : Bool → Hp → Prop) : Out Bool → Prop
  | .ok b => ∀ H' F', Post G am mu H F mu' H' F' → Q b H'
  | .ex c ds => Kx G W σ am mu H F mu' c ds
/-- of a test -/
def rdT (G : Cl) (W : WX) (f : BM) : TT := fun σ H Q => ∃ (am : Addr) (e0 : En) (rho : List Slot) (mu : Mu) (F : Hp), Sta G am e0 rho mu σ H F ∧ ∃ o mu', f rho mu = some (o, mu') ∧ KoB G W σ am mu H F mu' Q o
abbrev AM := List Slot → M (List D)
def KoA (G : Cl) (W : WX) (σ : L2.St) (am : Addr) (mu : Mu) (H F : Hp) (mu' : Mu) (Q : List V → Hp → Prop) : Out (List D) → Prop
  | .ok ds => ∀ vs H' F', Post G am mu H F mu' H' F' → RpAll G F' am vs ds → Q vs H'
  | .ex c ds => Kx G W σ am mu H F mu' c ds
/-- of arguments -/
def rdA (G : Cl) (W : WX) (f : AM) : TA := fun σ H Q => ∃ (am : Addr) (e0 : En) (rho : List Slot) (mu : Mu) (F : Hp), Sta G am e0 rho mu σ H F ∧ ∃ o mu', f rho mu = some (o, mu') ∧ KoA G W σ am mu H F mu' Q o
theorem PE.to {X : Cx} {e : Expr} {t t' : TE} (h : PE X e t) (k : ∀ σ H Q, t' σ H Q → t σ H Q) : PE X e t' := ⟨fun pins s σ H Q I q => h.run pins s σ H Q I (k σ H Q q)⟩
theorem PT.to {X : Cx} {e : Expr} {t t' : TT} (h : PT X e t) (k : ∀ σ H Q, t' σ H Q → t σ H Q) : PT X e t' := ⟨fun pins s σ H Q I q => h.run pins s σ H Q I (k σ H Q q)⟩
theorem PW.to {X : Cx} {e : Expr} {t t' : TT} (h : PW X e t) (k : ∀ σ H Q, t' σ H Q → t σ H Q) : PW X e t' := ⟨fun wh pins s σ H Q I q => h.run wh pins s σ H Q I (k σ H Q q)⟩
theorem PA.to {X : Cx} {e : List Expr} {t t' : TA} (h : PA X e t) (k : ∀ σ H Q, t' σ H Q → t σ H Q) : PA X e t' := ⟨fun pos pins s σ H Q I q => h.run pos pins s σ H Q I (k σ H Q q)⟩
theorem PS.to {X : Cx} {e : Stmt} {t t' : TS} (h : PS X e t) (k : ∀ D σ H, t' D σ H → t D σ H) : PS X e t' := ⟨fun pins s σ H D I q => h.run pins s σ H D I (k D σ H q)⟩
theorem PSs.to {X : Cx} {e : List Stmt} {t t' : TS} (h : PSs X e t) (k : ∀ D σ H, t' D σ H → t D σ H) : PSs X e t' := ⟨fun pins s σ H D I q => h.run pins s σ H D I (k D σ H q)⟩

section
variable {G : Cl} {W : WX} {am : Addr} {e0 : En} {H F H' F' H1 F1 : Hp} {rho : List Slot} {mu mu' m1 : Mu} {σ : L2.St}
/-- a new list is frozen -/
theorem freeze {p : Addr} {xs : List V} {ds : List D} (q : Post G am mu H F mu' H' F') (n : H p = none) (e : H' p = some (.lst xs)) (ef : F' p = none) (hp : mu = none ∨ p ≠ am) (r : RpAll G F' am xs ds) :
    Post G am mu H F mu' H' (upd F' p (.lst xs)) ∧ Rp G (upd F' p (.lst xs)) am (.ref p) (.lst ds) := by
  have g : Ex F' (upd F' p (.lst xs)) := Ex.new ef
  refine ⟨⟨q.keep, q.fF.trans g, fun a o h => ?_, fun a h => ?_, ?_, q.mm, q.tb⟩, .lst upd_same (r.mono g)⟩
  · by_cases ha : a = p
    · rw [ha, upd_same] at h
      cases h
      rw [ha]
      exact e
    · rw [upd_ne ha] at h
      exact q.sub a o h
  · by_cases ha : a = p
    · rw [ha]
      exact .inr n
    · rw [upd_ne ha] at h
      exact q.new a h
  · refine q.mr.mono (fun hm => ?_) g fun xs _ h => h
    have hne : am ≠ p := by
      rcases hp with z | z
      · exact absurd (q.mm.mp z) hm
      · exact Ne.symm z
    rw [upd_ne hne]
    cases mu' with
    | none => exact absurd rfl hm
    | some es => exact q.mr.1
/-- what is free behind was free ahead -/
theorem Post.fre {p : Addr} (q : Post G am mu H F m1 H1 F1) (n : H1 p = none) : H p = none := by
  cases e : H p with
  | none => rfl
  | some o =>
    by_cases hx : mu = none ∨ p ≠ am
    · obtain ⟨o', e', _⟩ := q.keep p o hx e
      rw [e'] at n
      cases n
    · have h1 : mu ≠ none := fun z => hx (.inl z)
      have h2 : p = am := Classical.byContradiction fun z => hx (.inr z)
      have h3 : m1 ≠ none := fun z => h1 (q.mm.mpr z)
      obtain ⟨ds, e3⟩ := Option.ne_none_iff_exists'.mp h3
      have m := q.mr
      rw [e3] at m
      obtain ⟨_, xs, hx2, _⟩ := m
      rw [h2, hx2] at n
      cases n
theorem Post.free {p : Addr} (s : MR G H F am mu) (q : Post G am mu H F m1 H1 F1) (n : H1 p = none) : H p = none := q.fre n
theorem Kd.frm {vl : Vl} {Q : VK} (q : Post G am mu H F m1 H1 F1) (k : Kd G am mu H F mu' Q vl) : Kd G am m1 H1 F1 mu' Q vl := by
  cases vl with
  | fz d => exact fun v H' F' p r => k v H' F' (q.tr p) r
  | fr ds => exact fun p xs H' F' z n e ef hp r => k p xs H' F' (q.tr z) (q.fre n) e ef (hp.imp (fun z => q.mm.mpr z) id) r
theorem Kd.pre {vl : Vl} {Q : VK} (sub : Ex F H) (s : MR G H F am mu) (q : Post G am mu H F m1 H1 F1) (k : Kd G am mu H F mu' Q vl) : Kd G am m1 H1 F1 mu' Q vl := by
  cases vl with
  | fz d => exact fun v H' F' p r => k v H' F' (q.trans sub p) r
  | fr ds => exact fun p xs H' F' z n e ef hp r => k p xs H' F' (q.trans sub z) (q.free s n) e ef (hp.imp (fun z => q.mm.mpr z) id) r
theorem Kx.pre {c : Nat} {ds : List D} (sub : Ex F H) (q : Post G am mu H F m1 H1 F1) (k : Kx G W σ am mu H F mu' c ds) : Kx G W σ am m1 H1 F1 mu' c ds :=
  fun dd xs H' F' p e r => k dd xs H' F' (q.trans sub p) e r
theorem Ko.pre {o : Out Vl} {Q : VK} (sub : Ex F H) (s : MR G H F am mu) (q : Post G am mu H F m1 H1 F1) (k : Ko G W σ am mu H F mu' Q o) : Ko G W σ am m1 H1 F1 mu' Q o := by
  cases o with
  | ok vl => exact Kd.pre sub s q k
  | ex c ds => exact Kx.pre sub q k
theorem KoB.pre {o : Out Bool} {Q : Bool → Hp → Prop} (sub : Ex F H) (q : Post G am mu H F m1 H1 F1) (k : KoB G W σ am mu H F mu' Q o) : KoB G W σ am m1 H1 F1 mu' Q o := by
  cases o with
  | ok b => exact fun H' F' p => k H' F' (q.trans sub p)
  | ex c ds => exact Kx.pre sub q k
theorem KoA.pre {o : Out (List D)} {Q : List V → Hp → Prop} (sub : Ex F H) (q : Post G am mu H F m1 H1 F1) (k : KoA G W σ am mu H F mu' Q o) : KoA G W σ am m1 H1 F1 mu' Q o := by
  cases o with
  | ok b => exact fun vs H' F' p r => k vs H' F' (q.trans sub p) r
  | ex c ds => exact Kx.pre sub q k
/-- a value that is used: frozen if it is new -/
theorem Kd.use {vl : Vl} {Q : VK} (k : ∀ v H' F', Post G am mu H F mu' H' F' → Rp G F' am v vl.d → Q v H') : Kd G am mu H F mu' Q vl := by
  cases vl with
  | fz d => exact k
  | fr ds =>
    intro p xs H' F' q n e ef hp r
    obtain ⟨q', r'⟩ := freeze q n e ef hp r
    exact k _ H' _ q' r'
theorem Kd.run {vl : Vl} {d : D} {Q : VK} (e : vl = .fz d) (k : Kd G am mu H F mu' Q vl) : ∀ v H' F', Post G am mu H F mu' H' F' → Rp G F' am v d → Q v H' := by
  subst e
  exact k
/-- an expression, then the rest -/
theorem rd_then {f : EM} {α : Type} {g : Vl → M α} {Q : VK} {o : Out α} (s : Sta G am e0 rho mu σ H F) (h : M.bind (f rho) g mu = some (o, mu')) (kx : ∀ c ds, o = .ex c ds → Kx G W σ am mu H F mu' c ds)
    (k : ∀ vl m1 v H1 F1, g vl m1 = some (o, mu') → Post G am mu H F m1 H1 F1 → Sta G am e0 rho m1 σ H1 F1 → Rp G F1 am v vl.d → Q v H1) : rd G W f σ H Q := by
  unfold M.bind at h
  cases e : f rho mu with
  | none => rw [e] at h; cases h
  | some r =>
    obtain ⟨o1, m1⟩ := r
    rw [e] at h
    cases o1 with
    | ex c ds =>
      cases h
      exact ⟨am, e0, rho, mu, F, s, _, _, e, kx c ds rfl⟩
    | ok vl => exact ⟨am, e0, rho, mu, F, s, _, _, e, Kd.use fun v H1 F1 q r => k vl m1 v H1 F1 h q (s.post q) r⟩
theorem rdT_then {f : BM} {α : Type} {g : Bool → M α} {Q : Bool → Hp → Prop} {o : Out α} (s : Sta G am e0 rho mu σ H F) (h : M.bind (f rho) g mu = some (o, mu')) (kx : ∀ c ds, o = .ex c ds → Kx G W σ am mu H F mu' c ds)
    (k : ∀ b m1 H1 F1, g b m1 = some (o, mu') → Post G am mu H F m1 H1 F1 → Sta G am e0 rho m1 σ H1 F1 → Q b H1) : rdT G W f σ H Q := by
  unfold M.bind at h
  cases e : f rho mu with
  | none => rw [e] at h; cases h
  | some r =>
    obtain ⟨o1, m1⟩ := r
    rw [e] at h
    cases o1 with
    | ex c ds =>
      cases h
      exact ⟨am, e0, rho, mu, F, s, _, _, e, kx c ds rfl⟩
    | ok b => exact ⟨am, e0, rho, mu, F, s, _, _, e, fun H1 F1 q => k b m1 H1 F1 h q (s.post q)⟩
theorem rdA_then {f : AM} {α : Type} {g : List D → M α} {Q : List V → Hp → Prop} {o : Out α} (s : Sta G am e0 rho mu σ H F) (h : M.bind (f rho) g mu = some (o, mu')) (kx : ∀ c ds, o = .ex c ds → Kx G W σ am mu H F mu' c ds)
    (k : ∀ ds m1 vs H1 F1, g ds m1 = some (o, mu') → Post G am mu H F m1 H1 F1 → Sta G am e0 rho m1 σ H1 F1 → RpAll G F1 am vs ds → Q vs H1) : rdA G W f σ H Q := by
  unfold M.bind at h
  cases e : f rho mu with
  | none => rw [e] at h; cases h
  | some r =>
    obtain ⟨o1, m1⟩ := r
    rw [e] at h
    cases o1 with
    | ex c ds =>
      cases h
      exact ⟨am, e0, rho, mu, F, s, _, _, e, kx c ds rfl⟩
    | ok ds => exact ⟨am, e0, rho, mu, F, s, _, _, e, fun vs H1 F1 q r => k ds m1 vs H1 F1 h q (s.post q) r⟩
theorem of_some {α : Type} {o : Option α} {m m' : Mu} {r : Out α} (h : M.of o m = some (r, m')) : ∃ a, o = some a ∧ r = .ok a ∧ m' = m := by
  cases o with
  | none => cases h
  | some a =>
    cases h
    exact ⟨a, rfl, rfl, rfl⟩
theorem Ko.x {o : Out Vl} {Q : VK} (k : Ko G W σ am mu H F mu' Q o) : ∀ c ds, o = .ex c ds → Kx G W σ am mu H F mu' c ds := fun c ds e => by
  subst e
  exact k
theorem KoB.x {o : Out Bool} {Q : Bool → Hp → Prop} (k : KoB G W σ am mu H F mu' Q o) : ∀ c ds, o = .ex c ds → Kx G W σ am mu H F mu' c ds := fun c ds e => by
  subst e
  exact k
theorem KoA.x {o : Out (List D)} {Q : List V → Hp → Prop} (k : KoA G W σ am mu H F mu' Q o) : ∀ c ds, o = .ex c ds → Kx G W σ am mu H F mu' c ds := fun c ds e => by
  subst e
  exact k
end
end Mi
end
section
set_option Elab.async false
set_option linter.all false
set_option maxRecDepth 100000
set_option maxHeartbeats 4000000
namespace Mi
open PySem PySem.Spec PyProof.Rows L2
open Evl (Ex)

/-! ### laying a new object -/
section
variable {G : Cl} {W : WX} {am : Addr} {e0 : En} {H F H' F' H1 F1 : Hp} {rho : List Slot} {mu mu' m1 : Mu} {σ : L2.St}
theorem keepR (s : Ex F H) (m : MR G H F am mu) : Post G am mu H F mu H F := Post.refl s m
theorem new_ne {p : Addr} (m : MR G H F am mu) (n : H p = none) : mu = none ∨ p ≠ am := by
  cases mu with
  | none => exact .inl rfl
  | some ds =>
    obtain ⟨_, xs, h, _⟩ := m
    refine .inr fun e => ?_
    rw [e, h] at n
    cases n
/-- a new object that is not frozen -/
theorem Post.lay {p : Addr} {o : HO} (s : Ex F H) (m : MR G H F am mu) (n : H p = none) : Post G am mu H F mu (upd H p o) F where
  tb := gd_new n
  keep := fun a u _ e => ⟨u, by rw [upd_ne (ne_of_none e n)]; exact e, fun _ => rfl⟩
  fF := Ex.refl F
  sub := s.trans (Ex.new n)
  new := fun _ h => .inl h
  mr := m.mono (fun hm => by
    cases mu with
    | none => exact absurd rfl hm
    | some es => exact m.1) (Ex.refl F) fun xs _ h => by rw [upd_ne (ne_of_none h n)]; exact h
  mm := Iff.rfl
theorem free_F {p : Addr} (s : Ex F H) (n : H p = none) : F p = none := Evl.fresh_back s n
/-- .. a frozen one -/
theorem Post.layF {p : Addr} {o : HO} (s : Ex F H) (m : MR G H F am mu) (n : H p = none) : Post G am mu H F mu (upd H p o) (upd F p o) where
  tb := gd_new n
  keep := fun a u _ e => ⟨u, by rw [upd_ne (ne_of_none e n)]; exact e, fun _ => rfl⟩
  fF := Ex.new (free_F s n)
  sub := fun a u e => by
    by_cases ha : a = p
    · rw [ha, upd_same] at e
      rw [ha, upd_same]
      exact e
    · rw [upd_ne ha] at e
      rw [upd_ne ha]
      exact s a u e
  new := fun a h => by
    by_cases ha : a = p
    · rw [ha]
      exact .inr n
    · rw [upd_ne ha] at h
      exact .inl h
  mr := m.mono (fun hm => by
    cases mu with
    | none => exact absurd rfl hm
    | some es =>
      obtain ⟨h1, xs, h2, _⟩ := m
      rw [upd_ne (ne_of_none h2 n)]
      exact h1) (Ex.new (free_F s n)) fun xs _ h => by rw [upd_ne (ne_of_none h n)]; exact h
  mm := Iff.rfl
theorem Kd.fz {d : D} {v : V} {Q : VK} (s : Ex F H) (m : MR G H F am mu) (r : Rp G F am v d) (k : Kd G am mu H F mu Q (.fz d)) : Q v H := k v H F (Post.refl s m) r
theorem Kd.tup {ds : List D} {xs : List V} {p : Addr} {Q : VK} (s : Ex F H) (m : MR G H F am mu) (r : RpAll G F am xs ds) (n : H p = none) (k : Kd G am mu H F mu Q (.fz (.tup ds))) : Q (.ref p) (upd H p (.tup xs)) :=
  k _ _ _ (Post.layF s m n) (.tup (Evl.st_of upd_same) (r.mono (Ex.new (free_F s n))))
theorem Kd.lst {ds : List D} {xs : List V} {p : Addr} {Q : VK} (s : Ex F H) (m : MR G H F am mu) (r : RpAll G F am xs ds) (n : H p = none) (k : Kd G am mu H F mu Q (.fr ds)) : Q (.ref p) (upd H p (.lst xs)) :=
  k p xs _ F (Post.lay s m n) n upd_same (free_F s n) (new_ne m n) r
end

/-! ### names, constants -/
def slotD : Option Slot → Option D
  | some (.va d) => some d
  | _ => none
theorem slotD_some {o : Option Slot} {d : D} (h : slotD o = some d) : o = some (.va d) := by
  cases o with
  | none => cases h
  | some z =>
    cases z <;> cases h
    rfl
def eVar (i : Nat) : EM := fun rho => M.bind (M.of (slotD rho[i]?)) fun d => M.pure (.fz d)
def eC (d : D) : EM := fun _ => M.pure (.fz d)
section
variable {X : Cx} {G : Cl} {W : WX} {pos : Pos} {a b c : Expr} {f g h : EM}
theorem d_var (i : Nat) {x : Str} (h : PE X (.Name x pos) (tVar i)) : PE X (.Name x pos) (rd G W (eVar i)) := by
  refine PE.to h fun σ H Q ⟨am, e0, rho, mu, F, s, o, mu', e, k⟩ => ?_
  unfold eVar M.bind at e
  cases hd : slotD rho[i]? with
  | none => rw [hd] at e; cases e
  | some d =>
    rw [hd] at e
    cases e
    obtain ⟨v, h1, h2⟩ := s.va i d (slotD_some hd)
    exact ⟨v, h1, Kd.fz s.sub s.mr h2 k⟩
theorem d_c {v : V} {d : D} (h : PE X a (tC v)) (r : ∀ F am, Rp G F am v d) : PE X a (rd G W (eC d)) := by
  refine PE.to h fun σ H Q ⟨am, e0, rho, mu, F, s, o, mu', e, k⟩ => ?_
  cases e
  exact Kd.fz s.sub s.mr (r F am) k
theorem d_int {i : Int} {j pos} : PE X (.Constant (.int i) j pos) (rd G W (eC (.int i))) := d_c pe_int fun _ _ => .int i
theorem d_bl {i : Bool} {j pos} : PE X (.Constant (.bool i) j pos) (rd G W (eC (.bl i))) := d_c pe_bl fun _ _ => .bl i
theorem d_non {j pos} : PE X (.Constant .none j pos) (rd G W (eC .non)) := d_c pe_non fun _ _ => .non
theorem d_str {i : Str} {j pos} : PE X (.Constant (.str i) j pos) (rd G W (eC (.str i))) := d_c pe_str fun _ _ => .str i

/-! ### two places -/
/-- what an operation means -/
def R2Ok (G : Cl) (r : R2) (op : D → D → Option Vl) : Prop :=
  ∀ (am : Addr) (mu : Mu) (H F : Hp) (x y : V) (dx dy : D) (vl : Vl) (Q : VK), Ex F H → MR G H F am mu → Gd G H → Rp G F am x dx → Rp G F am y dy → op dx dy = some vl → Kd G am mu H F mu Q vl → r x y H Q
def eBin (op : D → D → Option Vl) (f g : EM) : EM := fun rho => M.bind (f rho) fun x => M.bind (g rho) fun y => M.of (op x.d y.d)
theorem bin_to {r : R2} {op : D → D → Option Vl} (hr : R2Ok G r op) {σ : L2.St} {H : Hp} {Q : VK} (q : rd G W (eBin op f g) σ H Q) : tOp r (rd G W f) (rd G W g) σ H Q := by
  obtain ⟨am, e0, rho, mu, F, s, o, mu', e, k⟩ := q
  refine rd_then s e k.x fun vx m1 x H1 F1 e1 p1 s1 rx => ?_
  refine rd_then s1 e1 (Ko.pre s.sub s.mr p1 k).x fun vy m2 y H2 F2 e2 p2 s2 ry => ?_
  obtain ⟨z, hz, rfl, rfl⟩ := of_some e2
  exact hr am _ H2 F2 x y _ _ z Q s2.sub s2.mr s2.tb (rx.mono p2.fF) ry hz (Kd.pre s1.sub s1.mr p2 (Kd.pre s.sub s.mr p1 k))
theorem d_bin {op : Operator} {r : R2} {m : D → D → Option Vl} (ho : OpR X (binaryOp op) r) (hr : R2Ok G r m) (ha : PE X a (rd G W f)) (hb : PE X b (rd G W g)) : PE X (.BinOp a op b pos) (rd G W (eBin m f g)) :=
  PE.to (pe_op ho ha hb) fun _ _ _ q => bin_to hr q
theorem d_cmp {op : CmpOp} {r : R2} {m : D → D → Option Vl} (ho : OpR X (compareOp op) r) (hr : R2Ok G r m) (ha : PE X a (rd G W f)) (hb : PE X b (rd G W g)) (hm : behindInMarks op b = false) : PE X (.Compare a [op] [b] pos) (rd G W (eBin m f g)) :=
  PE.to (pe_cmpR ho ha hb hm) fun _ _ _ q => bin_to hr q
theorem d_ix {r : R2} {m : D → D → Option Vl} (ho : IxR X r) (hr : R2Ok G r m) (ha : PE X a (rd G W f)) (hb : PE X b (rd G W g)) (hs : PlainIx b) : PE X (.Subscript a b pos) (rd G W (eBin m f g)) :=
  PE.to (pe_ix ho ha hb hs) fun _ _ _ q => bin_to hr q
theorem R2Ok.or {r r' : R2} {m m' : D → D → Option Vl} (h : R2Ok G r m) (h' : R2Ok G r' m') : R2Ok G (fun x y H Q => r x y H Q ∨ r' x y H Q) (fun x y => match m x y with
  | some z => some z
  | none => m' x y) := by
  intro am mu H F x y dx dy vl Q s mr tt rx ry e k
  cases e1 : m dx dy with
  | some z =>
    simp only [e1] at e
    cases e
    exact .inl (h am mu H F x y dx dy _ Q s mr tt rx ry e1 k)
  | none =>
    simp only [e1] at e
    exact .inr (h' am mu H F x y dx dy _ Q s mr tt rx ry e k)
end

/-! ### the operations -/
def addI : D → D → Option Vl
  | .int i, .int j => some (.fz (.int (i + j)))
  | _, _ => none
def subI : D → D → Option Vl
  | .int i, .int j => some (.fz (.int (i - j)))
  | _, _ => none
def mulI : D → D → Option Vl
  | .int i, .int j => if i.natAbs.log2 + j.natAbs.log2 < 1000000 then some (.fz (.int (i * j))) else none
  | _, _ => none
def divI : D → D → Option Vl
  | .int i, .int j => if 0 < j ∧ j.natAbs.log2 < 9000 then some (.fz (.int (i / j))) else none
  | _, _ => none
def divN : D → D → Option Vl
  | .int i, .int j => if j ≠ 0 ∧ j.natAbs < 1073741824 then some (.fz (.int (i.fdiv j))) else none
  | _, _ => none
def modI : D → D → Option Vl
  | .int i, .int j => if 0 < j then some (.fz (.int (i % j))) else none
  | _, _ => none
def modN : D → D → Option Vl
  | .int i, .int j => if j ≠ 0 then some (.fz (.int (i.fmod j))) else none
  | _, _ => none
def powI : D → D → Option Vl
  | .int i, .int j => if 0 ≤ j ∧ j ≤ 1000000 ∧ i.natAbs < 2 ^ 64 then some (.fz (.int (i ^ j.toNat))) else none
  | _, _ => none
def big : Nat := 100000
def catL : D → D → Option Vl
  | .lst a, .lst b => if a.length + b.length ≤ 100000 then some (.fr (a ++ b)) else none
  | _, _ => none
def catT : D → D → Option Vl
  | .tup a, .tup b => if a.length + b.length ≤ 100000 then some (.fz (.tup (a ++ b))) else none
  | _, _ => none
def catS : D → D → Option Vl
  | .str a, .str b => if a.length + b.length ≤ 100000 then some (.fz (.str (a ++ b))) else none
  | _, _ => none
def repL : D → D → Option Vl
  | .lst a, .int k => if -1000 ≤ k ∧ k ≤ 1000 ∧ a.length * k.toNat ≤ 100000 then some (.fr (List.replicate k.toNat a).flatten) else none
  | _, _ => none
def repT : D → D → Option Vl
  | .tup a, .int k => if a ≠ [] ∧ 2 ≤ k ∧ k ≤ 1000 ∧ a.length ≤ 1000 then some (.fz (.tup (List.replicate k.toNat a).flatten)) else none
  | _, _ => none
def cmpI (p : Int → Int → Bool) : D → D → Option Vl
  | .int i, .int j => some (.fz (.bl (p i j)))
  | _, _ => none
section
variable {G : Cl}
theorem ok_I0 {g : Int → Int → V} {m : D → D → Option Vl} (e : ∀ x y vl, m x y = some vl → ∃ i j d, x = .int i ∧ y = .int j ∧ vl = .fz d ∧ ∀ F am, Rp G F am (g i j) d) : R2Ok G (rI0 g) m := by
  intro am mu H F x y dx dy vl Q s mr tt rx ry h k
  obtain ⟨i, j, d, rfl, rfl, rfl, r⟩ := e _ _ _ h
  cases rx
  cases ry
  exact ⟨i, j, rfl, rfl, Kd.fz s mr (r F am) k⟩
theorem ok_I {C : Int → Int → Prop} {g : Int → Int → V} {m : D → D → Option Vl} (e : ∀ x y vl, m x y = some vl → ∃ i j d, x = .int i ∧ y = .int j ∧ vl = .fz d ∧ C i j ∧ ∀ F am, Rp G F am (g i j) d) : R2Ok G (rI C g) m := by
  intro am mu H F x y dx dy vl Q s mr tt rx ry h k
  obtain ⟨i, j, d, rfl, rfl, rfl, c, r⟩ := e _ _ _ h
  cases rx
  cases ry
  exact ⟨i, j, rfl, rfl, c, Kd.fz s mr (r F am) k⟩
theorem ok_add : R2Ok G (rI0 fun i j => .int (i + j)) addI := ok_I0 fun x y vl h => by
  cases x <;> cases y <;> cases h
  exact ⟨_, _, _, rfl, rfl, rfl, fun _ _ => .int _⟩
theorem ok_sub : R2Ok G (rI0 fun i j => .int (i - j)) subI := ok_I0 fun x y vl h => by
  cases x <;> cases y <;> cases h
  exact ⟨_, _, _, rfl, rfl, rfl, fun _ _ => .int _⟩
theorem ok_cmpI {p : Int → Int → Bool} : R2Ok G (rI0 fun i j => .bl (p i j)) (cmpI p) := ok_I0 fun x y vl h => by
  cases x <;> cases y <;> cases h
  exact ⟨_, _, _, rfl, rfl, rfl, fun _ _ => .bl _⟩
theorem ite_some {α : Type} {c : Prop} [Decidable c] {a b : α} (h : (if c then some a else none) = some b) : c ∧ a = b := by
  by_cases hc : c
  · rw [if_pos hc] at h
    exact ⟨hc, Option.some.inj h⟩
  · rw [if_neg hc] at h
    cases h
theorem ok_mul : R2Ok G (rI CMulW fun i j => .int (i * j)) mulI := ok_I fun x y vl h => by
  cases x with
  | int i =>
    cases y with
    | int j =>
      obtain ⟨c, rfl⟩ := ite_some h
      exact ⟨_, _, _, rfl, rfl, rfl, c, fun _ _ => .int _⟩
    | _ => cases h
  | _ => cases y <;> cases h
theorem ok_div : R2Ok G (rI CDivW fun i j => .int (i / j)) divI := ok_I fun x y vl h => by
  cases x with
  | int i =>
    cases y with
    | int j =>
      obtain ⟨c, rfl⟩ := ite_some h
      exact ⟨_, _, _, rfl, rfl, rfl, c, fun _ _ => .int _⟩
    | _ => cases h
  | _ => cases y <;> cases h
theorem ok_divN : R2Ok G (rI CDivN fun i j => .int (i.fdiv j)) divN := ok_I fun x y vl h => by
  cases x with
  | int i =>
    cases y with
    | int j =>
      obtain ⟨c, rfl⟩ := ite_some h
      exact ⟨_, _, _, rfl, rfl, rfl, c, fun _ _ => .int _⟩
    | _ => cases h
  | _ => cases y <;> cases h
theorem ok_mod : R2Ok G (rI (fun _ j => 0 < j) fun i j => .int (i % j)) modI := ok_I fun x y vl h => by
  cases x with
  | int i =>
    cases y with
    | int j =>
      obtain ⟨c, rfl⟩ := ite_some h
      exact ⟨_, _, _, rfl, rfl, rfl, c, fun _ _ => .int _⟩
    | _ => cases h
  | _ => cases y <;> cases h
theorem ok_modN : R2Ok G (rI (fun _ j => j ≠ 0) fun i j => .int (i.fmod j)) modN := ok_I fun x y vl h => by
  cases x with
  | int i =>
    cases y with
    | int j =>
      obtain ⟨c, rfl⟩ := ite_some h
      exact ⟨_, _, _, rfl, rfl, rfl, c, fun _ _ => .int _⟩
    | _ => cases h
  | _ => cases y <;> cases h
theorem ok_pow : R2Ok G (rI CPow fun i j => .int (i ^ j.toNat)) powI := ok_I fun x y vl h => by
  cases x with
  | int i =>
    cases y with
    | int j =>
      obtain ⟨c, rfl⟩ := ite_some h
      exact ⟨_, _, _, rfl, rfl, rfl, c, fun _ _ => .int _⟩
    | _ => cases h
  | _ => cases y <;> cases h
theorem szL {n : Nat} (h : n ≤ 100000) : n ≤ sizeLine := Evl.sz_of h
theorem ok_catL : R2Ok G rCat catL := by
  intro am mu H F x y dx dy vl Q s mr tt rx ry h k
  cases rx with
  | lst h1 r1 =>
    cases ry with
    | lst h2 r2 =>
      obtain ⟨c, rfl⟩ := ite_some h
      exact ⟨_, _, _, _, rfl, rfl, s _ _ h1, s _ _ h2, szL (by rw [r1.length, r2.length]; exact c), fun p n => Kd.lst s mr (r1.append r2) n k⟩
    | _ => cases h
  | _ => cases ry <;> cases h
theorem ok_catT : R2Ok G (rCatA G.K) catT := by
  intro am mu H F x y dx dy vl Q s mr tt rx ry h k
  cases rx with
  | tup h1 r1 =>
    cases ry with
    | tup h2 r2 =>
      obtain ⟨c, rfl⟩ := ite_some h
      refine ⟨_, _, _, _, rfl, rfl, Evl.ex_t s h1, Evl.ex_t s h2, szL (by rw [r1.length, r2.length]; exact c), fun e => ?_, fun _ e => ?_, fun _ _ p n => Kd.tup s mr (r1.append r2) n k⟩
      · subst e
        cases r1
        exact Kd.fz s mr (.tup h2 r2) k
      · subst e
        cases r2
        refine Kd.fz s mr (.tup h1 ?_) k
        rw [List.append_nil]
        exact r1
    | _ => cases h
  | _ => cases ry <;> cases h
theorem ok_catS : R2Ok G (fun x y H Q => ∃ i j, x = .str i ∧ y = .str j ∧ i.length + j.length ≤ sizeLine ∧ Q (.str (i ++ j)) H) catS := by
  intro am mu H F x y dx dy vl Q s mr tt rx ry h k
  cases rx with
  | str i =>
    cases ry with
    | str j =>
      obtain ⟨c, rfl⟩ := ite_some h
      exact ⟨_, _, rfl, rfl, szL c, Kd.fz s mr (.str _) k⟩
    | _ => cases h
  | _ => cases ry <;> cases h
theorem rep_all {F : Hp} {am : Addr} {xs : List V} {ds : List D} (r : RpAll G F am xs ds) : ∀ n : Nat, RpAll G F am (List.replicate n xs).flatten (List.replicate n ds).flatten
  | 0 => .nil
  | n + 1 => by
    rw [List.replicate_succ, List.replicate_succ, List.flatten_cons, List.flatten_cons]
    exact r.append (rep_all r n)
theorem ok_repL : R2Ok G rRep repL := by
  intro am mu H F x y dx dy vl Q s mr tt rx ry h k
  cases rx with
  | lst h1 r1 =>
    cases ry with
    | int j =>
      obtain ⟨c, rfl⟩ := ite_some h
      exact ⟨_, _, _, rfl, rfl, s _ _ h1, by omega, by omega, szL (by rw [r1.length]; exact c.2.2), fun p n => Kd.lst s mr (rep_all r1 _) n k⟩
    | _ => cases h
  | _ => cases ry <;> cases h
theorem ok_repT : R2Ok G (rRepT G.K) repT := by
  intro am mu H F x y dx dy vl Q s mr tt rx ry h k
  cases rx with
  | tup h1 r1 =>
    cases ry with
    | int j =>
      obtain ⟨⟨c1, c2, c3, c4⟩, rfl⟩ := ite_some h
      refine ⟨_, _, _, rfl, rfl, Evl.ex_t s h1, fun e => c1 ?_, c2, c3, by rw [r1.length]; exact c4, fun p n => Kd.tup s mr (rep_all r1 _) n k⟩
      subst e
      cases r1
      rfl
    | _ => cases h
  | _ => cases ry <;> cases h
end
end Mi
end
section
set_option Elab.async false
set_option linter.all false
set_option maxRecDepth 100000
set_option maxHeartbeats 4000000
namespace Mi
open PySem PySem.Spec PyProof.Rows L2
open Evl (Ex)
section
variable {X : Cx} {G : Cl} {W : WX} {pos : Pos} {a b c : Expr} {f g h : EM} {es rest : List Expr}

/-! ### tests -/
def blD : D → Option Bool
  | .bl b => some b
  | _ => none
def bOf (f : EM) : BM := fun rho => M.bind (f rho) fun v => M.of (blD v.d)
theorem blD_some {d : D} {b : Bool} (h : blD d = some b) : d = .bl b := by
  cases d <;> cases h
  rfl
theorem test_to {σ : L2.St} {H : Hp} {Q : Bool → Hp → Prop} (q : rdT G W (bOf f) σ H Q) : rd G W f σ H (fun x H' => ∃ k, x = .bl k ∧ Q k H') := by
  obtain ⟨am, e0, rho, mu, F, s, o, mu', e, k⟩ := q
  refine rd_then s e k.x fun vx m1 x H1 F1 e1 p1 s1 rx => ?_
  obtain ⟨b, hb, rfl, rfl⟩ := of_some e1
  rw [blD_some hb] at rx
  cases rx
  exact ⟨b, rfl, k H1 F1 p1⟩
theorem t_cmp {op : CmpOp} {r : R2} {m : D → D → Option Vl} (ho : OpR X (compareOp op) r) (hr : R2Ok G r m) (ha : PE X a (rd G W f)) (hb : PE X b (rd G W g)) (hm : behindInMarks op b = false) : PT X (.Compare a [op] [b] pos) (rdT G W (bOf (eBin m f g))) :=
  PT.to (pt_cmpR ho ha hb hm) fun _ _ _ q => bin_to hr (test_to q)
theorem t_val (h : PE X a (rd G W f)) (he : ∀ whole, isTrue a X.env whole = (do let v ← whole; standAt a.pos; holding [v] (truthy v))) : PT X a (rdT G W (bOf f)) :=
  PT.to (pt_val h he) fun _ _ _ q => test_to q
/-- truth of any value -/
def truD : D → Option Bool
  | .non => some false
  | .bl b => some b
  | .int i => some (i != 0)
  | .str x => if x.length ≤ 100000 then some ((x.length : Int) != 0) else none
  | .lst ds => some !ds.isEmpty
  | .tup ds => some !ds.isEmpty
  | .scr ns => some !ns.isEmpty
  | _ => none
def bTru (f : EM) : BM := fun rho => M.bind (f rho) fun v => M.of (truD v.d)
theorem emp {F : Hp} {am : Addr} {xs : List V} {ds : List D} (r : RpAll G F am xs ds) : ds.isEmpty = xs.isEmpty := by
  cases r <;> rfl
theorem truD_ok {F H : Hp} {am : Addr} {x : V} {d : D} {b : Bool} (s : Ex F H) (r : Rp G F am x d) (h : truD d = some b) : TruV G.K x H b := by
  cases r with
  | non => cases h; rfl
  | bl b => cases h; rfl
  | int i => cases h; rfl
  | str x =>
    obtain ⟨c, e⟩ := ite_some h
    exact ⟨szL c, e.symm⟩
  | lst h1 r1 =>
    cases h
    exact .inl ⟨_, Evl.sq_of (s _ _ h1), congrArg not (emp r1)⟩
  | tup h1 r1 =>
    cases h
    exact .inr (.inl ⟨_, Evl.ex_t s h1, congrArg not (emp r1)⟩)
  | scr h1 =>
    cases h
    refine .inl ⟨_, Evl.ex_l s h1, ?_⟩
    rename_i ns
    cases ns <;> rfl
  | _ => cases h
theorem t_tru (hK : X.K = G.K) (h : PE X a (rd G W f)) (he : ∀ whole, isTrue a X.env whole = (do let v ← whole; standAt a.pos; holding [v] (truthy v))) : PT X a (rdT G W (bTru f)) := by
  refine PT.to (pt_truth h he) fun σ H Q q => ?_
  obtain ⟨am, e0, rho, mu, F, s, o, mu', e, k⟩ := q
  refine rd_then s e k.x fun vx m1 x H1 F1 e1 p1 s1 rx => ?_
  obtain ⟨b, hb, rfl, rfl⟩ := of_some e1
  exact ⟨b, by rw [hK]; exact truD_ok s1.sub rx hb, k H1 F1 p1⟩
def bAnd (f g : BM) : BM := fun rho => M.bind (f rho) fun x => if x = true then g rho else M.pure false
def bOr (f g : BM) : BM := fun rho => M.bind (f rho) fun x => if x = true then M.pure true else g rho
def bNot (f : BM) : BM := fun rho => M.bind (f rho) fun x => M.pure (!x)
variable {tf tg : BM}
theorem w_and1 (h : PT X a (rdT G W tf)) : PW X (.BoolOp .And [a] pos) (rdT G W tf) := pw_and1 h
theorem w_or1 (h : PT X a (rdT G W tf)) : PW X (.BoolOp .Or [a] pos) (rdT G W tf) := pw_or1 h
theorem w_and (ha : PT X a (rdT G W tf)) (hb : PW X (.BoolOp .And (b :: rest) pos) (rdT G W tg)) : PW X (.BoolOp .And (a :: b :: rest) pos) (rdT G W (bAnd tf tg)) := by
  refine PW.to (pw_and ha hb) fun σ H Q q => ?_
  obtain ⟨am, e0, rho, mu, F, s, o, mu', e, k⟩ := q
  refine rdT_then s e k.x fun x m1 H1 F1 e1 p1 s1 => ?_
  cases x with
  | true => exact ⟨am, e0, rho, m1, F1, s1, o, mu', e1, KoB.pre s.sub p1 k⟩
  | false =>
    cases e1
    exact k H1 F1 p1
theorem w_or (ha : PT X a (rdT G W tf)) (hb : PW X (.BoolOp .Or (b :: rest) pos) (rdT G W tg)) : PW X (.BoolOp .Or (a :: b :: rest) pos) (rdT G W (bOr tf tg)) := by
  refine PW.to (pw_or ha hb) fun σ H Q q => ?_
  obtain ⟨am, e0, rho, mu, F, s, o, mu', e, k⟩ := q
  refine rdT_then s e k.x fun x m1 H1 F1 e1 p1 s1 => ?_
  cases x with
  | false => exact ⟨am, e0, rho, m1, F1, s1, o, mu', e1, KoB.pre s.sub p1 k⟩
  | true =>
    cases e1
    exact k H1 F1 p1
theorem t_not (ha : PT X a (rdT G W tf)) : PT X (.UnaryOp .Not a pos) (rdT G W (bNot tf)) := by
  refine PT.to (pt_not ha) fun σ H Q q => ?_
  obtain ⟨am, e0, rho, mu, F, s, o, mu', e, k⟩ := q
  refine rdT_then s e k.x fun x m1 H1 F1 e1 p1 s1 => ?_
  cases e1
  exact k H1 F1 p1

/-! ### chains -/
def eChain (m m' : D → D → Option Vl) (f g h : EM) : EM := fun rho => M.bind (f rho) fun x => M.bind (g rho) fun y => M.bind (M.of (m x.d y.d)) fun z => M.bind (M.of (blD z.d)) fun k =>
  if k = true then M.bind (h rho) fun w => M.of (m' y.d w.d) else M.pure (.fz (.bl false))
theorem chain_to {r r' : R2} {m m' : D → D → Option Vl} (hr : R2Ok G r m) (hr' : R2Ok G r' m') {σ : L2.St} {H : Hp} {Q : VK} (q : rd G W (eChain m m' f g h) σ H Q) : tChain r r' (rd G W f) (rd G W g) (rd G W h) σ H Q := by
  obtain ⟨am, e0, rho, mu, F, s, o, mu', e, k⟩ := q
  refine rd_then s e k.x fun vx m1 x H1 F1 e1 p1 s1 rx => ?_
  have k1 := Ko.pre s.sub s.mr p1 k
  refine rd_then s1 e1 k1.x fun vy m2 y H2 F2 e2 p2 s2 ry => ?_
  have k2 := Ko.pre s1.sub s1.mr p2 k1
  cases hz : m vx.d vy.d with
  | none => rw [hz] at e2; cases e2
  | some z =>
    rw [hz] at e2
    cases hb : blD z.d with
    | none =>
      have e3 : M.bind (M.of (blD z.d)) (fun k => if k = true then M.bind (h rho) fun w => M.of (m' vy.d w.d) else M.pure (.fz (.bl false))) m2 = some (o, mu') := e2
      rw [hb] at e3
      cases e3
    | some kb =>
      have e3 : M.bind (M.of (blD z.d)) (fun k => if k = true then M.bind (h rho) fun w => M.of (m' vy.d w.d) else M.pure (.fz (.bl false))) m2 = some (o, mu') := e2
      rw [hb] at e3
      refine hr am _ H2 F2 x y _ _ z _ s2.sub s2.mr s2.tb (rx.mono p2.fF) ry hz (Kd.use fun v H3 F3 p3 r3 => ?_)
      rw [blD_some hb] at r3
      cases r3
      refine ⟨kb, rfl, ?_⟩
      have s3 := s2.post p3
      have k3 := Ko.pre s2.sub s2.mr p3 k2
      cases kb with
      | false =>
        cases e3
        exact Kd.fz s3.sub s3.mr (.bl false) k3
      | true =>
        show rd G W h σ H3 _
        refine rd_then s3 e3 k3.x fun vw m4 w H4 F4 e4 p4 s4 rw_ => ?_
        obtain ⟨u, hu, rfl, rfl⟩ := of_some e4
        exact hr' am _ H4 F4 y w _ _ u Q s4.sub s4.mr s4.tb ((ry.mono p3.fF).mono p4.fF) rw_ hu (Kd.pre s3.sub s3.mr p4 k3)
theorem d_chain {op op' : CmpOp} {r r' : R2} {m m' : D → D → Option Vl} (ho : OpR X (compareOp op) r) (hr : R2Ok G r m) (ho' : OpR X (compareOp op') r') (hr' : R2Ok G r' m') (ha : PE X a (rd G W f)) (hb : PE X b (rd G W g)) (hc : PE X c (rd G W h))
    (hm : lastMarks [op, op'] [b, c] = false) : PE X (.Compare a [op, op'] [b, c] pos) (rd G W (eChain m m' f g h)) :=
  PE.to (pe_chain ho ho' ha hb hc hm) fun _ _ _ q => chain_to hr hr' q
theorem t_chain {op op' : CmpOp} {r r' : R2} {m m' : D → D → Option Vl} (ho : OpR X (compareOp op) r) (hr : R2Ok G r m) (ho' : OpR X (compareOp op') r') (hr' : R2Ok G r' m') (ha : PE X a (rd G W f)) (hb : PE X b (rd G W g)) (hc : PE X c (rd G W h))
    (hm : lastMarks [op, op'] [b, c] = false) : PT X (.Compare a [op, op'] [b, c] pos) (rdT G W (bOf (eChain m m' f g h))) :=
  PT.to (pt_chain ho ho' ha hb hc hm) fun _ _ _ q => chain_to hr hr' (test_to q)

/-! ### and, or, not as values; a if t else b; -a -/
def eAnd (f g : EM) : EM := fun rho => M.bind (f rho) fun x => M.bind (M.of (blD x.d)) fun k => if k = true then g rho else M.pure (.fz (.bl false))
def eOr (f g : EM) : EM := fun rho => M.bind (f rho) fun x => M.bind (M.of (blD x.d)) fun k => if k = true then M.pure (.fz (.bl true)) else g rho
def eNot (f : EM) : EM := fun rho => M.bind (f rho) fun x => M.bind (M.of (blD x.d)) fun k => M.pure (.fz (.bl !k))
theorem bl_then {am : Addr} {H F : Hp} {x : V} {d : D} {m m' : Mu} {α : Type} {gk : Bool → M α} {o : Out α} (e : M.bind (M.of (blD d)) gk m = some (o, m')) (r : Rp G F am x d) : ∃ k, x = .bl k ∧ gk k m = some (o, m') := by
  cases hb : blD d with
  | none => rw [hb] at e; cases e
  | some k =>
    rw [hb] at e
    rw [blD_some hb] at r
    cases r
    exact ⟨k, rfl, e⟩
theorem d_and (ha : PE X a (rd G W f)) (hb : PE X (.BoolOp .And (b :: rest) pos) (rd G W g)) : PE X (.BoolOp .And (a :: b :: rest) pos) (rd G W (eAnd f g)) := by
  refine PE.to (pe_and ha hb) fun σ H Q q => ?_
  obtain ⟨am, e0, rho, mu, F, s, o, mu', e, k⟩ := q
  refine rd_then s e k.x fun vx m1 x H1 F1 e1 p1 s1 rx => ?_
  obtain ⟨kb, rfl, e2⟩ := bl_then (H := H) e1 rx
  have k1 := Ko.pre s.sub s.mr p1 k
  refine ⟨kb, rfl, ?_⟩
  cases kb with
  | true => exact ⟨am, e0, rho, m1, F1, s1, o, mu', e2, k1⟩
  | false =>
    cases e2
    exact Kd.fz s1.sub s1.mr (.bl false) k1
theorem d_or (ha : PE X a (rd G W f)) (hb : PE X (.BoolOp .Or (b :: rest) pos) (rd G W g)) : PE X (.BoolOp .Or (a :: b :: rest) pos) (rd G W (eOr f g)) := by
  refine PE.to (pe_or ha hb) fun σ H Q q => ?_
  obtain ⟨am, e0, rho, mu, F, s, o, mu', e, k⟩ := q
  refine rd_then s e k.x fun vx m1 x H1 F1 e1 p1 s1 rx => ?_
  obtain ⟨kb, rfl, e2⟩ := bl_then (H := H) e1 rx
  have k1 := Ko.pre s.sub s.mr p1 k
  refine ⟨kb, rfl, ?_⟩
  cases kb with
  | false => exact ⟨am, e0, rho, m1, F1, s1, o, mu', e2, k1⟩
  | true =>
    cases e2
    exact Kd.fz s1.sub s1.mr (.bl true) k1
theorem d_one {op} (ha : PE X a (rd G W f)) : PE X (.BoolOp op [a] pos) (rd G W f) := pe_one ha
theorem d_not (ha : PE X a (rd G W f)) : PE X (.UnaryOp .Not a pos) (rd G W (eNot f)) := by
  refine PE.to (pe_not ha) fun σ H Q q => ?_
  obtain ⟨am, e0, rho, mu, F, s, o, mu', e, k⟩ := q
  refine rd_then s e k.x fun vx m1 x H1 F1 e1 p1 s1 rx => ?_
  obtain ⟨kb, rfl, e2⟩ := bl_then (H := H) e1 rx
  cases e2
  exact ⟨kb, rfl, Kd.fz s1.sub s1.mr (.bl _) (Ko.pre s.sub s.mr p1 k)⟩
def eIf (t : BM) (f g : EM) : EM := fun rho => M.bind (t rho) fun k => if k = true then f rho else g rho
theorem d_if (hc : PT X c (rdT G W tf)) (ha : PE X a (rd G W f)) (hb : PE X b (rd G W g)) : PE X (.IfExp c a b pos) (rd G W (eIf tf f g)) := by
  refine PE.to (pe_ifExp hc ha hb) fun σ H Q q => ?_
  obtain ⟨am, e0, rho, mu, F, s, o, mu', e, k⟩ := q
  refine rdT_then s e k.x fun x m1 H1 F1 e1 p1 s1 => ?_
  have k1 := Ko.pre s.sub s.mr p1 k
  cases x with
  | true => exact ⟨am, e0, rho, m1, F1, s1, o, mu', e1, k1⟩
  | false => exact ⟨am, e0, rho, m1, F1, s1, o, mu', e1, k1⟩
def negI : D → Option Vl
  | .int i => some (.fz (.int (-i)))
  | _ => none
def eUn (m : D → Option Vl) (f : EM) : EM := fun rho => M.bind (f rho) fun x => M.of (m x.d)
theorem d_neg (ha : PE X a (rd G W f)) : PE X (.UnaryOp .USub a pos) (rd G W (eUn negI f)) := by
  refine PE.to (pe_un un_neg ha) fun σ H Q q => ?_
  obtain ⟨am, e0, rho, mu, F, s, o, mu', e, k⟩ := q
  refine rd_then s e k.x fun vx m1 x H1 F1 e1 p1 s1 rx => ?_
  obtain ⟨z, hz, rfl, rfl⟩ := of_some e1
  cases hd : vx.d with
  | int i =>
    rw [hd] at hz rx
    cases hz
    cases rx
    exact ⟨i, rfl, Kd.fz s1.sub s1.mr (.int _) (Kd.pre s.sub s.mr p1 k)⟩
  | _ => rw [hd] at hz; cases hz

/-! ### arguments, calls, displays -/
def aNil : AM := fun _ => M.pure []
def aCons (f : EM) (g : AM) : AM := fun rho => M.bind (f rho) fun x => M.bind (g rho) fun xs => M.pure (x.d :: xs)
variable {ag : AM}
theorem a_nil : PA X [] (rdA G W aNil) := by
  refine PA.to pa_nil fun σ H Q q => ?_
  obtain ⟨am, e0, rho, mu, F, s, o, mu', e, k⟩ := q
  cases e
  exact k [] H F (Post.refl s.sub s.mr) .nil
theorem a_cons (ha : PE X a (rd G W f)) (hr : PA X es (rdA G W ag)) (hs : starEach (a :: es) X.env = (false, eval a X.env) :: starEach es X.env := by rfl) : PA X (a :: es) (rdA G W (aCons f ag)) := by
  refine PA.to (pa_cons ha hr hs) fun σ H Q q => ?_
  obtain ⟨am, e0, rho, mu, F, s, o, mu', e, k⟩ := q
  refine rd_then s e k.x fun vx m1 x H1 F1 e1 p1 s1 rx => ?_
  have k1 := KoA.pre s.sub p1 k
  refine rdA_then s1 e1 k1.x fun ds m2 vs H2 F2 e2 p2 s2 rs => ?_
  cases e2
  exact KoA.pre s1.sub p2 k1 (x :: vs) H2 F2 (Post.refl s2.sub s2.mr) (.cons (rx.mono p2.fF) rs)
def CallOk (G : Cl) (r : List V → Hp → VK → Prop) (m : List D → Option Vl) : Prop :=
  ∀ (am : Addr) (mu : Mu) (H F : Hp) (vs : List V) (ds : List D) (vl : Vl) (Q : VK), Ex F H → MR G H F am mu → RpAll G F am vs ds → m ds = some vl → Kd G am mu H F mu Q vl → r vs H Q
def eCall (m : List D → Option Vl) (g : AM) : EM := fun rho => M.bind (g rho) fun xs => M.of (m xs)
theorem call_to {r : List V → Hp → VK → Prop} {m : List D → Option Vl} (hr : CallOk G r m) {σ : L2.St} {H : Hp} {Q : VK} (q : rd G W (eCall m ag) σ H Q) : tCB r (rdA G W ag) σ H Q := by
  obtain ⟨am, e0, rho, mu, F, s, o, mu', e, k⟩ := q
  refine rdA_then s e k.x fun ds m1 vs H1 F1 e1 p1 s1 rs => ?_
  obtain ⟨z, hz, rfl, rfl⟩ := of_some e1
  exact hr am _ H1 F1 vs ds z Q s1.sub s1.mr rs hz (Kd.pre s.sub s.mr p1 k)
theorem d_call {r : List V → Hp → VK → Prop} {m : List D → Option Vl} (h : PE X a (tCB r (rdA G W ag))) (hr : CallOk G r m) : PE X a (rd G W (eCall m ag)) := PE.to h fun _ _ _ q => call_to hr q
def mTup (ds : List D) : Option Vl := if ds.length ≤ 100000 then some (.fz (.tup ds)) else none
def mLst (ds : List D) : Option Vl := if ds.length ≤ 100000 then some (.fr ds) else none
theorem d_tup {x1} (h : PA X es (rdA G W ag)) : PE X (.Tuple es x1 pos) (rd G W (eCall mTup ag)) := by
  refine PE.to (pe_tup h) fun σ H Q q => ?_
  obtain ⟨am, e0, rho, mu, F, s, o, mu', e, k⟩ := q
  refine rdA_then s e k.x fun ds m1 vs H1 F1 e1 p1 s1 rs => ?_
  obtain ⟨z, hz, rfl, rfl⟩ := of_some e1
  obtain ⟨c, rfl⟩ := ite_some hz
  exact ⟨szL (by rw [rs.length]; exact c), fun p n => Kd.tup s1.sub s1.mr rs n (Kd.pre s.sub s.mr p1 k)⟩
theorem d_lst (h : PA X es (rdA G W ag)) : PE X (.List es pos) (rd G W (eCall mLst ag)) := by
  refine PE.to (pe_lst h) fun σ H Q q => ?_
  obtain ⟨am, e0, rho, mu, F, s, o, mu', e, k⟩ := q
  refine rdA_then s e k.x fun ds m1 vs H1 F1 e1 p1 s1 rs => ?_
  obtain ⟨z, hz, rfl, rfl⟩ := of_some e1
  obtain ⟨c, rfl⟩ := ite_some hz
  exact ⟨szL (by rw [rs.length]; exact c), fun p n => Kd.lst s1.sub s1.mr rs n (Kd.pre s.sub s.mr p1 k)⟩

/-! ### slices -/
abbrev OM := List Slot → M (Option Int)
def KoO (G : Cl) (W : WX) (σ : L2.St) (am : Addr) (mu : Mu) (H F : Hp) (mu' : Mu) (Q : Option Int → Hp → Prop) : Out (Option Int) → Prop
  | .ok b => ∀ H' F', Post G am mu H F mu' H' F' → Q b H'
  | .ex c ds => Kx G W σ am mu H F mu' c ds
def rdO (G : Cl) (W : WX) (f : OM) : TO := fun σ H Q => ∃ (am : Addr) (e0 : En) (rho : List Slot) (mu : Mu) (F : Hp), Sta G am e0 rho mu σ H F ∧ ∃ o mu', f rho mu = some (o, mu') ∧ KoO G W σ am mu H F mu' Q o
theorem PO.to {X : Cx} {e : Option Expr} {t t' : TO} (h : PO X e t) (k : ∀ σ H Q, t' σ H Q → t σ H Q) : PO X e t' := ⟨fun pins s σ H Q I q => h.run pins s σ H Q I (k σ H Q q)⟩
def oNone : OM := fun _ => M.pure none
def intD : D → Option Int
  | .int i => some i
  | _ => none
theorem intD_some {d : D} {i : Int} (h : intD d = some i) : d = .int i := by
  cases d <;> cases h
  rfl
def oSome (f : EM) : OM := fun rho => M.bind (f rho) fun x => M.bind (M.of (intD x.d)) fun i => M.pure (some i)
theorem o_none : PO X none (rdO G W oNone) := by
  refine PO.to po_none fun σ H Q q => ?_
  obtain ⟨am, e0, rho, mu, F, s, o, mu', e, k⟩ := q
  cases e
  exact k H F (Post.refl s.sub s.mr)
theorem o_some (h : PE X a (rd G W f)) : PO X (some a) (rdO G W (oSome f)) := by
  refine PO.to (po_some h) fun σ H Q q => ?_
  obtain ⟨am, e0, rho, mu, F, s, o, mu', e, k⟩ := q
  refine rd_then s e (fun c ds h => by subst h; exact k) fun vx m1 x H1 F1 e1 p1 s1 rx => ?_
  cases hd : intD vx.d with
  | none => rw [hd] at e1; cases e1
  | some i =>
    rw [hd] at e1
    cases e1
    rw [intD_some hd] at rx
    cases rx
    exact ⟨i, rfl, k H1 F1 p1⟩
def cutD {α : Type} (xs : List α) (lo hi : Option Int) : List α := (xs.drop (HT.sIx xs.length 0 lo)).take (HT.sIx xs.length xs.length hi - HT.sIx xs.length 0 lo)
def slD : D → Option Int → Option Int → Option Vl
  | .lst ds, lo, hi => some (.fr (cutD ds lo hi))
  | .scr ns, lo, hi => some (.fr ((cutD ns lo hi).map D.int))
  | .tup ds, lo, hi => some (.fz (.tup (cutD ds lo hi)))
  | _, _, _ => none
def eSl (f : EM) (lo hi : OM) : EM := fun rho => M.bind (f rho) fun x => M.bind (lo rho) fun l => M.bind (hi rho) fun u => M.of (slD x.d l u)
theorem cut_all {F : Hp} {am : Addr} {xs : List V} {ds : List D} (r : RpAll G F am xs ds) (lo hi : Option Int) : RpAll G F am (cutV xs lo hi) (cutD ds lo hi) := by
  unfold cutV cutD
  rw [← r.length]
  exact (r.drop _).take _
theorem rdO_then {σ : L2.St} {am : Addr} {e0 : En} {H F : Hp} {rho : List Slot} {mu mu' : Mu} {f : OM} {α : Type} {g : Option Int → M α} {Q : Option Int → Hp → Prop} {o : Out α} (s : Sta G am e0 rho mu σ H F) (h : M.bind (f rho) g mu = some (o, mu')) (kx : ∀ c ds, o = .ex c ds → Kx G W σ am mu H F mu' c ds)
    (k : ∀ b m1 H1 F1, g b m1 = some (o, mu') → Post G am mu H F m1 H1 F1 → Sta G am e0 rho m1 σ H1 F1 → Q b H1) : rdO G W f σ H Q := by
  unfold M.bind at h
  cases e : f rho mu with
  | none => rw [e] at h; cases h
  | some r =>
    obtain ⟨o1, m1⟩ := r
    rw [e] at h
    cases o1 with
    | ex c ds =>
      cases h
      exact ⟨am, e0, rho, mu, F, s, _, _, e, kx c ds rfl⟩
    | ok b => exact ⟨am, e0, rho, mu, F, s, _, _, e, fun H1 F1 q => k b m1 H1 F1 h q (s.post q)⟩
theorem d_sl {lo hi : Option Expr} {p2 : Pos} {fl fh : OM} (hK : X.K = G.K) (ha : PE X a (rd G W f)) (hl : PO X lo (rdO G W fl)) (hu : PO X hi (rdO G W fh)) : PE X (.Subscript a (.Slice lo hi none p2) pos) (rd G W (eSl f fl fh)) := by
  refine PE.to (pe_slice (sl_list.or sl_tupA) ha hl hu) fun σ H Q q => ?_
  obtain ⟨am, e0, rho, mu, F, s, o, mu', e, k⟩ := q
  refine rd_then s e k.x fun vx m1 x H1 F1 e1 p1 s1 rx => ?_
  have k1 := Ko.pre s.sub s.mr p1 k
  refine rdO_then s1 e1 k1.x fun l m2 H2 F2 e2 p2 s2 => ?_
  have k2 := Ko.pre s1.sub s1.mr p2 k1
  refine rdO_then s2 e2 k2.x fun u m3 H3 F3 e3 p3 s3 => ?_
  have k3 := Ko.pre s2.sub s2.mr p3 k2
  have r3 := (rx.mono p2.fF).mono p3.fF
  obtain ⟨z, hz, rfl, rfl⟩ := of_some e3
  cases hd : vx.d with
  | lst ds =>
    rw [hd] at hz r3
    cases hz
    cases r3 with
    | lst h1 r1 =>
      refine .inl ⟨_, _, rfl, ?_, fun p n => Kd.lst s3.sub s3.mr (cut_all r1 l u) n k3⟩
      exact Evl.sq_of (s3.sub _ _ h1)
  | scr ns =>
    rw [hd] at hz r3
    cases hz
    cases r3 with
    | scr h1 =>
      refine .inl ⟨_, _, rfl, by rw [hK]; exact Evl.ex_l s3.sub h1, fun p n => ?_⟩
      have e : cutV (ns.map V.int) l u = (cutD ns l u).map V.int := by
        unfold cutV cutD
        rw [List.length_map, ← List.map_drop, ← List.map_take]
      rw [e]
      exact Kd.lst s3.sub s3.mr (RpAll.of_ints _) n k3
  | tup ds =>
    rw [hd] at hz r3
    cases hz
    cases r3 with
    | tup h1 r1 =>
      refine .inr ⟨_, _, rfl, by rw [hK]; exact Evl.ex_t s3.sub h1, fun hw => ?_, fun _ p n => Kd.tup s3.sub s3.mr (cut_all r1 l u) n k3⟩
      refine Kd.fz s3.sub s3.mr (.tup h1 ?_) k3
      have e : cutD ds l u = ds := by
        unfold cutD
        rw [r1.length] at hw
        rw [hw.1, hw.2]
        simp
      rw [e]
      exact r1
  | _ => rw [hd] at hz; cases hz
end
end Mi
end
section
set_option Elab.async false
set_option linter.all false
set_option maxRecDepth 100000
set_option maxHeartbeats 4000000
namespace Mi
open PySem PySem.Spec PyProof.Rows L2
open Evl (Ex)

/-! ### statements -/
inductive Fl where
  | nx | bk | ct
  | rt (d : Vl)
inductive Res where
  | fl (f : Fl) (rho : List Slot)
  | ex (c : Nat) (ds : List D) (rho : List Slot)
abbrev SM := List Slot → Mu → Option (Res × Mu)
/-- where a state leads -/
def Nx (G : Cl) (am : Addr) (e0 : En) (F : Hp) (rho' : List Slot) (mu' : Mu) (P : L2.St → Hp → Prop) : Prop := ∀ σ' H' F', Ex F F' → Sta G am e0 rho' mu' σ' H' F' → P σ' H'
def KoS (G : Cl) (W : WX) (am : Addr) (e0 : En) (F : Hp) (mu' : Mu) (Dn : Ends) : Res → Prop
  | .fl .nx rho' => Nx G am e0 F rho' mu' Dn.nx
  | .fl .bk rho' => Nx G am e0 F rho' mu' Dn.bk
  | .fl .ct rho' => Nx G am e0 F rho' mu' Dn.ct
  | .fl (.rt d) _ => Kd G am e0.mu e0.H e0.F mu' Dn.rt d
  | .ex c ds rho' => ∀ dd xs σ' H' F', Ex F F' → Sta G am e0 rho' mu' σ' H' F' → H' dd = some (xdOf G c xs) → RpAll G F' am xs ds → W (.ref (G.ca c)) (some dd) σ' H'
def rdS (G : Cl) (W : WX) (f : SM) : TS := fun Dn σ H => ∃ (am : Addr) (e0 : En) (rho : List Slot) (mu : Mu) (F : Hp), Sta G am e0 rho mu σ H F ∧ ∃ r mu', f rho mu = some (r, mu') ∧ KoS G W am e0 F mu' Dn r
section
variable {X : Cx} {G : Cl} {W : WX} {pos : Pos} {a b c e : Expr} {f g h : EM} {st : Stmt} {ss rest : List Stmt} {sf sg : SM} {tf : BM}
theorem Nx.pre {am : Addr} {e0 : En} {F F1 : Hp} {rho : List Slot} {mu : Mu} {P : L2.St → Hp → Prop} (e : Ex F F1) (k : Nx G am e0 F rho mu P) : Nx G am e0 F1 rho mu P := fun σ H F' q s => k σ H F' (e.trans q) s
theorem KoS.pre {am : Addr} {e0 : En} {F F1 : Hp} {mu : Mu} {Dn : Ends} {r : Res} (e : Ex F F1) (k : KoS G W am e0 F mu Dn r) : KoS G W am e0 F1 mu Dn r := by
  cases r with
  | fl fl rho =>
    cases fl with
    | nx => exact Nx.pre e k
    | bk => exact Nx.pre e k
    | ct => exact Nx.pre e k
    | rt d => exact k
  | ex c ds rho => exact fun dd xs σ H F' q s => k dd xs σ H F' (e.trans q) s
def sSeq (f g : SM) : SM := fun rho mu => match f rho mu with
  | some (.fl .nx rho', mu') => g rho' mu'
  | r => r
def sNil : SM := fun rho mu => some (.fl .nx rho, mu)
theorem z_nil : PSs X [] (rdS G W sNil) := by
  refine PSs.to pss_nil fun Dn σ H ⟨am, e0, rho, mu, F, s, r, mu', e, k⟩ => ?_
  cases e
  exact k σ H F (Ex.refl F) s
theorem seq_to {Dn : Ends} {σ : L2.St} {H : Hp} (q : rdS G W (sSeq sf sg) Dn σ H) : tSeq (rdS G W sf) (rdS G W sg) Dn σ H := by
  obtain ⟨am, e0, rho, mu, F, s, r, mu', e, k⟩ := q
  unfold sSeq at e
  cases e1 : sf rho mu with
  | none => rw [e1] at e; cases e
  | some z =>
    obtain ⟨r1, m1⟩ := z
    rw [e1] at e
    refine ⟨am, e0, rho, mu, F, s, r1, m1, e1, ?_⟩
    cases r1 with
    | ex c ds rho1 =>
      cases e
      exact k
    | fl fl rho1 =>
      cases fl with
      | nx => exact fun σ1 H1 F1 q s1 => ⟨am, e0, rho1, m1, F1, s1, r, mu', e, KoS.pre q k⟩
      | bk =>
        cases e
        exact k
      | ct =>
        cases e
        exact k
      | rt d =>
        cases e
        exact k
theorem z_cons (h1 : PS X st (rdS G W sf)) (h2 : PSs X rest (rdS G W sg)) : PSs X (st :: rest) (rdS G W (sSeq sf sg)) := PSs.to (pss_cons h1 h2) fun _ _ _ q => seq_to q
theorem z_one (h1 : PS X st (rdS G W sf)) : PSs X [st] (rdS G W sf) := pss_one h1
def sPass : SM := sNil
def sBrk : SM := fun rho mu => some (.fl .bk rho, mu)
def sCnt : SM := fun rho mu => some (.fl .ct rho, mu)
theorem s_pass : PS X (.Pass pos) (rdS G W sPass) := by
  refine PS.to ps_pass fun Dn σ H ⟨am, e0, rho, mu, F, s, r, mu', e, k⟩ => ?_
  cases e
  exact k σ H F (Ex.refl F) s
theorem s_brk : PS X (.Break pos) (rdS G W sBrk) := by
  refine PS.to ps_break fun Dn σ H ⟨am, e0, rho, mu, F, s, r, mu', e, k⟩ => ?_
  cases e
  exact k σ H F (Ex.refl F) s
theorem s_cnt : PS X (.Continue pos) (rdS G W sCnt) := by
  refine PS.to ps_continue fun Dn σ H ⟨am, e0, rho, mu, F, s, r, mu', e, k⟩ => ?_
  cases e
  exact k σ H F (Ex.refl F) s
/-- an expression, then what the statement makes of it -/
def sWith (f : List Slot → M α) (k : α → List Slot → Mu → Option (Res × Mu)) : SM := fun rho mu => match f rho mu with
  | none => none
  | some (.ok v, m) => k v rho m
  | some (.ex c ds, m) => some (.ex c ds rho, m)
theorem kx_of {σ : L2.St} {am : Addr} {e0 : En} {H F : Hp} {rho : List Slot} {mu mu' : Mu} {Dn : Ends} {c : Nat} {ds : List D} (s : Sta G am e0 rho mu σ H F) (k : KoS G W am e0 F mu' Dn (.ex c ds rho)) : Kx G W σ am mu H F mu' c ds :=
  fun dd xs H' F' p h r => k dd xs σ H' F' p.fF (s.post p) h r
/-- the expression's value, frozen -/
theorem with_use {σ : L2.St} {am : Addr} {e0 : En} {H F : Hp} {rho : List Slot} {mu mu' : Mu} {Dn : Ends} {r : Res} {k : Vl → List Slot → Mu → Option (Res × Mu)} {Q : VK} (s : Sta G am e0 rho mu σ H F) (e : sWith f k rho mu = some (r, mu')) (ks : KoS G W am e0 F mu' Dn r)
    (hk : ∀ vl m1 v H1 F1, k vl rho m1 = some (r, mu') → Ex F F1 → Sta G am e0 rho m1 σ H1 F1 → Rp G F1 am v vl.d → KoS G W am e0 F1 mu' Dn r → Q v H1) : rd G W f σ H Q := by
  unfold sWith at e
  cases e1 : f rho mu with
  | none => rw [e1] at e; cases e
  | some z =>
    obtain ⟨o1, m1⟩ := z
    rw [e1] at e
    cases o1 with
    | ex c ds =>
      cases e
      exact ⟨am, e0, rho, mu, F, s, _, _, e1, kx_of s ks⟩
    | ok vl => exact ⟨am, e0, rho, mu, F, s, _, _, e1, Kd.use fun v H1 F1 q r1 => hk vl m1 v H1 F1 e q.fF (s.post q) r1 (KoS.pre q.fF ks)⟩
theorem with_useT {σ : L2.St} {am : Addr} {e0 : En} {H F : Hp} {rho : List Slot} {mu mu' : Mu} {Dn : Ends} {r : Res} {k : Bool → List Slot → Mu → Option (Res × Mu)} {Q : Bool → Hp → Prop} (s : Sta G am e0 rho mu σ H F) (e : sWith tf k rho mu = some (r, mu')) (ks : KoS G W am e0 F mu' Dn r)
    (hk : ∀ b m1 H1 F1, k b rho m1 = some (r, mu') → Ex F F1 → Sta G am e0 rho m1 σ H1 F1 → KoS G W am e0 F1 mu' Dn r → Q b H1) : rdT G W tf σ H Q := by
  unfold sWith at e
  cases e1 : tf rho mu with
  | none => rw [e1] at e; cases e
  | some z =>
    obtain ⟨o1, m1⟩ := z
    rw [e1] at e
    cases o1 with
    | ex c ds =>
      cases e
      exact ⟨am, e0, rho, mu, F, s, _, _, e1, kx_of s ks⟩
    | ok b => exact ⟨am, e0, rho, mu, F, s, _, _, e1, fun H1 F1 q => hk b m1 H1 F1 e q.fF (s.post q) (KoS.pre q.fF ks)⟩
/-- a slot stored -/
theorem Sta.set {σ : L2.St} {am : Addr} {e0 : En} {H F : Hp} {rho : List Slot} {mu : Mu} {i : Nat} {v : V} {d : D} (s : Sta G am e0 rho mu σ H F) (r : Rp G F am v d) : Sta G am e0 (rho.set i (.va d)) mu (σ.set i (some v)) H F where
  sub := s.sub
  len := by rw [List.length_set, List.length_set]; exact s.len
  va := fun j d' h => by
    by_cases hj : i = j
    · subst hj
      have hl : i < rho.length := by
        have z := (List.getElem?_eq_some_iff.mp h).1
        simpa using z
      rw [List.getElem?_set_self hl] at h
      cases h
      exact ⟨v, by rw [List.getElem?_set_self (by rw [s.len]; exact hl)], r⟩
    · rw [List.getElem?_set_ne hj] at h
      rw [List.getElem?_set_ne hj]
      exact s.va j d' h
  ow := fun j ds h => by
    by_cases hj : i = j
    · subst hj
      have hl : i < rho.length := by
        have z := (List.getElem?_eq_some_iff.mp h).1
        simpa using z
      rw [List.getElem?_set_self hl] at h
      cases h
    · rw [List.getElem?_set_ne hj] at h
      rw [List.getElem?_set_ne hj]
      exact s.ow j ds h
  dj := fun j k ds es a hjk h1 h2 h3 h4 => by
    have nj : ∀ (j : Nat) (ds : Ow), (rho.set i (.va d))[j]? = some (.ow ds) → i ≠ j ∧ rho[j]? = some (.ow ds) := fun j ds h => by
      by_cases hj : i = j
      · subst hj
        have hl : i < rho.length := by
          have z := (List.getElem?_eq_some_iff.mp h).1
          simpa using z
        rw [List.getElem?_set_self hl] at h
        cases h
      · rw [List.getElem?_set_ne hj] at h
        exact ⟨hj, h⟩
    obtain ⟨n1, g1⟩ := nj j ds h1
    obtain ⟨n2, g2⟩ := nj k es h2
    rw [List.getElem?_set_ne n1] at h3
    rw [List.getElem?_set_ne n2] at h4
    exact s.dj j k ds es a hjk g1 g2 h3 h4
  oi := fun j c ds a h h' => by
    by_cases hj : i = j
    · subst hj
      have hl : i < rho.length := by
        have z := (List.getElem?_eq_some_iff.mp h).1
        simpa using z
      rw [List.getElem?_set_self hl] at h
      cases h
    · rw [List.getElem?_set_ne hj] at h h'
      exact s.oi j c ds a h h'
  mr := s.mr
  keep := s.keep
  tb := s.tb
  fF := s.fF
  new := s.new
  mz := s.mz
def sSet (i : Nat) (f : EM) : SM := sWith f fun v rho m => some (.fl .nx (rho.set i (.va v.d)), m)
theorem s_set {i : Nat} (h : PS X st (tAsg (rd G W f) (gName i))) : PS X st (rdS G W (sSet i f)) := by
  refine PS.to h fun Dn σ H ⟨am, e0, rho, mu, F, s, r, mu', e, k⟩ => ?_
  refine with_use s e k fun vl m1 v H1 F1 e1 q s1 rv k1 => ?_
  cases e1
  exact k1 _ H1 F1 (Ex.refl F1) (s1.set rv)
def sDrop (f : EM) : SM := sWith f fun _ rho m => some (.fl .nx rho, m)
theorem s_drop (h : PS X st (tDrop (rd G W f))) : PS X st (rdS G W (sDrop f)) := by
  refine PS.to h fun Dn σ H ⟨am, e0, rho, mu, F, s, r, mu', e, k⟩ => ?_
  refine with_use s e k fun vl m1 v H1 F1 e1 q s1 rv k1 => ?_
  cases e1
  exact k1 _ H1 F1 (Ex.refl F1) s1
def sIf (t : BM) (f g : SM) : SM := sWith t fun b rho m => if b = true then f rho m else g rho m
theorem s_if (hc : PT X c (rdT G W tf)) (ha : PSs X ss (rdS G W sf)) (hb : PSs X rest (rdS G W sg)) : PS X (.If c ss rest pos) (rdS G W (sIf tf sf sg)) := by
  refine PS.to (ps_if hc ha hb) fun Dn σ H ⟨am, e0, rho, mu, F, s, r, mu', e, k⟩ => ?_
  refine with_useT s e k fun b m1 H1 F1 e1 q s1 k1 => ?_
  cases b with
  | true => exact ⟨am, e0, rho, m1, F1, s1, r, mu', e1, k1⟩
  | false => exact ⟨am, e0, rho, m1, F1, s1, r, mu', e1, k1⟩
def sRet (f : EM) : SM := sWith f fun v rho m => some (.fl (.rt (.fz v.d)) rho, m)
theorem s_ret (h : PE X e (rd G W f)) : PS X (.Return (some e) pos) (rdS G W (sRet f)) := by
  refine PS.to (ps_ret h) fun Dn σ H ⟨am, e0, rho, mu, F, s, r, mu', e, k⟩ => ?_
  refine with_use s e k fun vl m1 v H1 F1 e1 q s1 rv k1 => ?_
  cases e1
  exact k1 v H1 F1 s1.whole rv
def sRetN : SM := fun rho mu => some (.fl (.rt (.fz .non)) rho, mu)
theorem s_retN : PS X (.Return none pos) (rdS G W sRetN) := by
  refine PS.to ps_retN fun Dn σ H ⟨am, e0, rho, mu, F, s, r, mu', e, k⟩ => ?_
  cases e
  exact k .non H F s.whole .non
/-- code that is never reached -/
def sNever : SM := fun _ _ => none
theorem s_never : PS X st (rdS G W sNever) := PS.to ps_never fun Dn σ H ⟨am, e0, rho, mu, F, s, r, mu', e, k⟩ => by cases e
theorem z_never : PSs X ss (rdS G W sNever) := PSs.to pss_never fun Dn σ H ⟨am, e0, rho, mu, F, s, r, mu', e, k⟩ => by cases e

/-! ### loops -/
/-- the turns of a for: the items, what a turn does -/
def forL (body : D → SM) : List D → SM
  | [] => fun rho mu => some (.fl .nx rho, mu)
  | d :: ds => fun rho mu => match body d rho mu with
    | none => none
    | some (.fl .nx rho', m) => forL body ds rho' m
    | some (.fl .ct rho', m) => forL body ds rho' m
    | some (.fl .bk rho', m) => some (.fl .nx rho', m)
    | r => r
/-- a target's store -/
def gSet (i : Nat) (d : D) (rho : List Slot) : List Slot := rho.set i (.va d)
def bodyOf (i : Nat) (f : SM) : D → SM := fun d rho mu => f (gSet i d rho) mu
/-- from one turn to the next -/
theorem forL_turn {body : D → SM} {d : D} {ds : List D} {σ : L2.St} {am : Addr} {e0 : En} {H F : Hp} {rho : List Slot} {mu mu' : Mu} {Dn : Ends} {r : Res} (e : forL body (d :: ds) rho mu = some (r, mu')) (k : KoS G W am e0 F mu' Dn r)
    {Tu : Ends → L2.St → Hp → Prop} {Nxt : L2.St → Hp → Prop}
    (hN : ∀ σ1 H1 F1 rho1 m1, Ex F F1 → Sta G am e0 rho1 m1 σ1 H1 F1 → forL body ds rho1 m1 = some (r, mu') → KoS G W am e0 F1 mu' Dn r → Nxt σ1 H1)
    (hT : ∀ r1 m1, body d rho mu = some (r1, m1) → KoS G W am e0 F m1 { Dn with nx := Nxt, ct := Nxt, bk := Dn.nx } r1 → Tu { Dn with nx := Nxt, ct := Nxt, bk := Dn.nx } σ H) : Tu { Dn with nx := Nxt, ct := Nxt, bk := Dn.nx } σ H := by
  have e' : (match body d rho mu with
    | none => none
    | some (.fl .nx rho', m) => forL body ds rho' m
    | some (.fl .ct rho', m) => forL body ds rho' m
    | some (.fl .bk rho', m) => some (.fl .nx rho', m)
    | r => r) = some (r, mu') := e
  cases e1 : body d rho mu with
  | none => rw [e1] at e'; cases e'
  | some z =>
    obtain ⟨r1, m1⟩ := z
    rw [e1] at e'
    refine hT r1 m1 e1 ?_
    cases r1 with
    | ex c ds rho1 =>
      cases e'
      exact k
    | fl fl rho1 =>
      cases fl with
      | nx => exact fun σ1 H1 F1 q s1 => hN σ1 H1 F1 rho1 m1 q s1 e' (KoS.pre q k)
      | ct => exact fun σ1 H1 F1 q s1 => hN σ1 H1 F1 rho1 m1 q s1 e' (KoS.pre q k)
      | bk =>
        cases e'
        exact k
      | rt d =>
        cases e'
        exact k
/-- what is walked: its items -/
inductive Wk where
  | lst (ds : List D)
  | tup (ds : List D)
  | scr (ns : List Int)
def Wk.items : Wk → List D
  | .lst ds => ds
  | .tup ds => ds
  | .scr ns => ns.map .int
def seqD : D → Option (List D)
  | .lst ds => some ds
  | .scr ns => some (ns.map .int)
  | _ => none
def tupD : D → Option (List D)
  | .tup ds => some ds
  | _ => none
theorem seqD_at {F : Hp} {am : Addr} {v : V} {d : D} {ds : List D} (r : Rp G F am v d) (h : seqD d = some ds) : ∃ a xs, v = .ref a ∧ SqL G.K F a xs ∧ RpAll G F am xs ds := by
  cases r with
  | lst h1 r1 =>
    cases h
    exact ⟨_, _, rfl, Evl.sq_of h1, r1⟩
  | scr h1 =>
    cases h
    exact ⟨_, _, rfl, h1, RpAll.of_ints _⟩
  | _ => cases h
theorem tupD_at {F : Hp} {am : Addr} {v : V} {d : D} {ds : List D} (r : Rp G F am v d) (h : tupD d = some ds) : ∃ a xs, v = .ref a ∧ SqT G.K F a xs ∧ RpAll G F am xs ds := by
  cases r with
  | tup h1 r1 =>
    cases h
    exact ⟨_, _, rfl, h1, r1⟩
  | _ => cases h
def sFor (m : D → Option (List D)) (f : EM) (body : D → SM) : SM := sWith f fun v rho mu => match m v.d with
  | some ds => forL body ds rho mu
  | none => none
theorem getD_drop {α : Type} {l : List α} {i : Nat} {x : α} (h : l[i]? = some x) : l.drop i = x :: l.drop (i + 1) := by
  obtain ⟨hi, e⟩ := List.getElem?_eq_some_iff.mp h
  rw [List.drop_eq_getElem_cons hi, e]
/-- a target that takes an item -/
def TgOk (G : Cl) (g : TG) (put : D → List Slot → Option (List Slot)) : Prop := ∀ (am : Addr) (e0 : En) (rho rho' : List Slot) (mu : Mu) (σ : L2.St) (H F : Hp) (v : V) (d : D) (Q : L2.St → Hp → Prop),
  Sta G am e0 rho mu σ H F → Rp G F am v d → put d rho = some rho' → (∀ σ', Sta G am e0 rho' mu σ' H F → Q σ' H) → g v σ H Q
theorem tg_name {i : Nat} : TgOk G (gName i) (fun d rho => some (rho.set i (.va d))) := by
  intro am e0 rho rho' mu σ H F v d Q s r e k
  cases e
  exact k _ (s.set r)
def sBody (put : D → List Slot → Option (List Slot)) (f : SM) : D → SM := fun d rho mu => match put d rho with
  | some rho' => f rho' mu
  | none => none
theorem s_forL {tg iter : Expr} {gt : TG} {put : D → List Slot → Option (List Slot)} (hK : X.K = G.K) (h : PS X st (tFor (iList X.K (rd G W f)) gt (rdS G W sf))) (hg : TgOk G gt put) : PS X st (rdS G W (sFor seqD f (sBody put sf))) := by
  refine PS.to h fun Dn σ H ⟨am, e0, rho, mu, F, s, r, mu', e, k⟩ => ?_
  refine with_use s e k fun vl m1 v H1 F1 e1 q s1 rv k1 => ?_
  cases hd : seqD vl.d with
  | none => rw [hd] at e1; cases e1
  | some ds =>
    rw [hd] at e1
    obtain ⟨a, xs, rfl, hq, rx⟩ := seqD_at rv hd
    rw [hK]
    refine ⟨a, rfl, ⟨xs, Evl.ex_l s1.sub hq⟩, for_list (xs := xs) (fun i σ' H' => ∃ (rho' : List Slot) (m' : Mu) (F' : Hp), Ex F1 F' ∧ Sta G am e0 rho' m' σ' H' F' ∧ forL (sBody put sf) (ds.drop i) rho' m' = some (r, mu') ∧ KoS G W am e0 F' mu' Dn r)
      ⟨rho, m1, F1, Ex.refl F1, s1, e1, k1⟩ (fun i σ' H' _ ⟨_, _, F', q', s', _, _⟩ => Evl.ex_l s'.sub (Evl.ex_l q' hq)) ?_ ?_⟩
    · rintro i x σ' H' hx ⟨rho', m', F', q', s', e', k'⟩
      obtain ⟨d, hd', rd'⟩ := rx.getV hx
      rw [getD_drop hd'] at e'
      refine forL_turn (Tu := fun D σ H => gt x σ H fun σ2 H2 => rdS G W sf D σ2 H2) e' k' (fun σ2 H2 F2 rho2 m2 q2 s2 e2 k2 => ⟨rho2, m2, F2, q'.trans q2, s2, e2, k2⟩) fun r1 m2 e2 k2 => ?_
      unfold sBody at e2
      cases hp : put d rho' with
      | none => rw [hp] at e2; cases e2
      | some rho2 =>
        rw [hp] at e2
        exact hg am e0 rho' rho2 m' σ' H' F' x d _ s' (rd'.mono q') hp fun σ2 s2 => ⟨am, e0, rho2, m', F', s2, r1, m2, e2, k2⟩
    · rintro σ' H' ⟨rho', m', F', q', s', e', k'⟩
      rw [rx.length, List.drop_length] at e'
      cases e'
      exact k' σ' H' F' (Ex.refl F') s'
theorem s_forT {gt : TG} {put : D → List Slot → Option (List Slot)} (hK : X.K = G.K) (h : PS X st (tFor (iTup X.K (rd G W f)) gt (rdS G W sf))) (hg : TgOk G gt put) : PS X st (rdS G W (sFor tupD f (sBody put sf))) := by
  refine PS.to h fun Dn σ H ⟨am, e0, rho, mu, F, s, r, mu', e, k⟩ => ?_
  refine with_use s e k fun vl m1 v H1 F1 e1 q s1 rv k1 => ?_
  cases hd : tupD vl.d with
  | none => rw [hd] at e1; cases e1
  | some ds =>
    rw [hd] at e1
    obtain ⟨a, xs, rfl, hq, rx⟩ := tupD_at rv hd
    rw [hK]
    refine ⟨a, rfl, ⟨xs, Evl.ex_t s1.sub hq⟩, for_tup (xs := xs) (fun i σ' H' => ∃ (rho' : List Slot) (m' : Mu) (F' : Hp), Ex F1 F' ∧ Sta G am e0 rho' m' σ' H' F' ∧ forL (sBody put sf) (ds.drop i) rho' m' = some (r, mu') ∧ KoS G W am e0 F' mu' Dn r)
      ⟨rho, m1, F1, Ex.refl F1, s1, e1, k1⟩ (fun i σ' H' _ ⟨_, _, F', q', s', _, _⟩ => Evl.ex_t s'.sub (Evl.ex_t q' hq)) ?_ ?_⟩
    · rintro i x σ' H' hx ⟨rho', m', F', q', s', e', k'⟩
      obtain ⟨d, hd', rd'⟩ := rx.getV hx
      rw [getD_drop hd'] at e'
      refine forL_turn (Tu := fun D σ H => gt x σ H fun σ2 H2 => rdS G W sf D σ2 H2) e' k' (fun σ2 H2 F2 rho2 m2 q2 s2 e2 k2 => ⟨rho2, m2, F2, q'.trans q2, s2, e2, k2⟩) fun r1 m2 e2 k2 => ?_
      unfold sBody at e2
      cases hp : put d rho' with
      | none => rw [hp] at e2; cases e2
      | some rho2 =>
        rw [hp] at e2
        exact hg am e0 rho' rho2 m' σ' H' F' x d _ s' (rd'.mono q') hp fun σ2 s2 => ⟨am, e0, rho2, m', F', s2, r1, m2, e2, k2⟩
    · rintro σ' H' ⟨rho', m', F', q', s', e', k'⟩
      rw [rx.length, List.drop_length] at e'
      cases e'
      exact k' σ' H' F' (Ex.refl F') s'
/-- the ints lo, lo + 1, .., n of them -/
def upI (lo : Int) : Nat → List D
  | 0 => []
  | n + 1 => .int lo :: upI (lo + 1) n
theorem upI_drop : ∀ (n i : Nat) (lo : Int), i < n → (upI lo n).drop i = .int (lo + i) :: (upI lo n).drop (i + 1)
  | 0, i, lo, h => absurd h (Nat.not_lt_zero _)
  | n + 1, 0, lo, _ => by
    show upI lo (n + 1) = _
    simp [upI]
  | n + 1, i + 1, lo, h => by
    have z := upI_drop n i (lo + 1) (Nat.lt_of_succ_lt_succ h)
    show (upI (lo + 1) n).drop i = .int (lo + ((i + 1 : Nat) : Int)) :: (upI (lo + 1) n).drop (i + 1)
    rw [z]
    have e : lo + 1 + (i : Int) = lo + ((i + 1 : Nat) : Int) := by omega
    rw [e]
theorem upI_len : ∀ (n : Nat) (lo : Int), (upI lo n).length = n
  | 0, _ => rfl
  | n + 1, lo => congrArg (· + 1) (upI_len n (lo + 1))
def rng1 : List D → Option (Int × Nat)
  | [.int j] => if -1000000 ≤ j ∧ j ≤ 100000000 then some (0, j.toNat) else none
  | _ => none
def rng2 : List D → Option (Int × Nat)
  | [.int i, .int j] => if -1000000 ≤ i ∧ i ≤ 100000000 ∧ -1000000 ≤ j ∧ j ≤ 100000000 then some (i, (j - i).toNat) else none
  | _ => none
def sForR (rg : List D → Option (Int × Nat)) (f : AM) (body : D → SM) : SM := sWith f fun ds rho mu => match rg ds with
  | some (lo, n) => forL body (upI lo n) rho mu
  | none => none
theorem with_useA {ag : AM} {σ : L2.St} {am : Addr} {e0 : En} {H F : Hp} {rho : List Slot} {mu mu' : Mu} {Dn : Ends} {r : Res} {k : List D → List Slot → Mu → Option (Res × Mu)} {Q : List V → Hp → Prop} (s : Sta G am e0 rho mu σ H F) (e : sWith ag k rho mu = some (r, mu')) (ks : KoS G W am e0 F mu' Dn r)
    (hk : ∀ ds m1 vs H1 F1, k ds rho m1 = some (r, mu') → Ex F F1 → Sta G am e0 rho m1 σ H1 F1 → RpAll G F1 am vs ds → KoS G W am e0 F1 mu' Dn r → Q vs H1) : rdA G W ag σ H Q := by
  unfold sWith at e
  cases e1 : ag rho mu with
  | none => rw [e1] at e; cases e
  | some z =>
    obtain ⟨o1, m1⟩ := z
    rw [e1] at e
    cases o1 with
    | ex c ds =>
      cases e
      exact ⟨am, e0, rho, mu, F, s, _, _, e1, kx_of s ks⟩
    | ok ds => exact ⟨am, e0, rho, mu, F, s, _, _, e1, fun vs H1 F1 q r1 => hk ds m1 vs H1 F1 e q.fF (s.post q) r1 (KoS.pre q.fF ks)⟩
theorem range_go {gt : TG} {put : D → List Slot → Option (List Slot)} (hg : TgOk G gt put) {lo : Int} {n : Nat} {σ : L2.St} {am : Addr} {e0 : En} {H F : Hp} {rho : List Slot} {m mu' : Mu} {Dn : Ends} {r : Res} (s : Sta G am e0 rho m σ H F) (e : forL (sBody put sf) (upI lo n) rho m = some (r, mu')) (k : KoS G W am e0 F mu' Dn r) :
    ∃ W' : Nat → Nat → L2.St → Hp → Prop, (∃ m, W' 0 m σ H) ∧ ∀ i m σ H, W' i m σ H →
      ((Itr lo n).stop i H ∧ Dn.nx σ H) ∨ ((Itr lo n).go i H ∧ ∃ N : L2.St → Hp → Prop, (∀ σ' H', N σ' H' → ∃ m', m' < m ∧ W' (i + 1) m' σ' H') ∧ ∀ x H', (Itr lo n).yld i H x H' → gt x σ H' fun σ2 H2 => rdS G W sf { Dn with nx := N, ct := N, bk := Dn.nx } σ2 H2) := by
  refine for_range (fun i σ' H' => ∃ (rho' : List Slot) (m' : Mu) (F' : Hp), Sta G am e0 rho' m' σ' H' F' ∧ forL (sBody put sf) ((upI lo n).drop i) rho' m' = some (r, mu') ∧ KoS G W am e0 F' mu' Dn r)
    ⟨rho, m, F, s, e, k⟩ ?_ ?_
  · rintro i σ' H' hi ⟨rho', m', F', s', e', k'⟩
    rw [upI_drop n i lo hi] at e'
    refine forL_turn (Tu := fun D σ H => gt (.int (lo + i)) σ H fun σ2 H2 => rdS G W sf D σ2 H2) e' k' (fun σ2 H2 F2 rho2 m2 q2 s2 e2 k2 => ⟨rho2, m2, F2, s2, e2, k2⟩) fun r1 m2 e2 k2 => ?_
    unfold sBody at e2
    cases hp : put (.int (lo + i)) rho' with
    | none => rw [hp] at e2; cases e2
    | some rho2 =>
      rw [hp] at e2
      exact hg am e0 rho' rho2 m' σ' H' F' (.int (lo + i)) (.int (lo + i)) _ s' (.int _) hp fun σ2 s2 => ⟨am, e0, rho2, m', F', s2, r1, m2, e2, k2⟩
  · rintro σ' H' ⟨rho', m', F', s', e', k'⟩
    have z : (upI lo n).drop n = [] := by
      rw [List.drop_eq_nil_iff, upI_len]
      exact Nat.le_refl n
    rw [z] at e'
    cases e'
    exact k' σ' H' F' (Ex.refl F') s'
theorem rng1_ints {F : Hp} {am : Addr} {vs : List V} {ds : List D} {lo : Int} {n : Nat} (r : RpAll G F am vs ds) (h : rng1 ds = some (lo, n)) : ∃ j : Int, vs = [.int j] ∧ -(2 ^ 62) ≤ j ∧ j < 2 ^ 62 ∧ lo = 0 ∧ n = j.toNat := by
  unfold rng1 at h
  split at h
  · rename_i j
    obtain ⟨c, e⟩ := ite_some h
    cases e
    cases r with
    | cons r1 r2 =>
      cases r2
      cases r1
      exact ⟨j, rfl, by omega, by omega, rfl, rfl⟩
  · cases h
theorem rng2_ints {F : Hp} {am : Addr} {vs : List V} {ds : List D} {lo : Int} {n : Nat} (r : RpAll G F am vs ds) (h : rng2 ds = some (lo, n)) :
    ∃ i j : Int, vs = [.int i, .int j] ∧ (-(2 ^ 62) ≤ i ∧ i < 2 ^ 62 ∧ -(2 ^ 62) ≤ j ∧ j < 2 ^ 62) ∧ lo = i ∧ n = (j - i).toNat := by
  unfold rng2 at h
  split at h
  · rename_i i j
    obtain ⟨c, e⟩ := ite_some h
    cases e
    cases r with
    | cons r1 r2 =>
      cases r2 with
      | cons r3 r4 =>
        cases r4
        cases r1
        cases r3
        exact ⟨_, j, rfl, by omega, rfl, rfl⟩
  · cases h
theorem s_forR1 {ag : AM} {gt : TG} {put : D → List Slot → Option (List Slot)} (h : PS X st (tFor (iRng1 (rdA G W ag)) gt (rdS G W sf))) (hg : TgOk G gt put) : PS X st (rdS G W (sForR rng1 ag (sBody put sf))) := by
  refine PS.to h fun Dn σ H ⟨am, e0, rho, mu, F, s, r, mu', e, k⟩ => ?_
  refine with_useA s e k fun ds m1 vs H1 F1 e1 q s1 rv k1 => ?_
  cases hd : rng1 ds with
  | none => rw [hd] at e1; cases e1
  | some p =>
    obtain ⟨lo, n⟩ := p
    rw [hd] at e1
    obtain ⟨j, ev, h1, h2, rfl, rfl⟩ := rng1_ints rv hd
    exact ⟨j, ev, h1, h2, range_go hg s1 e1 k1⟩
theorem s_forR2 {ag : AM} {gt : TG} {put : D → List Slot → Option (List Slot)} (h : PS X st (tFor (iRng2 (rdA G W ag)) gt (rdS G W sf))) (hg : TgOk G gt put) : PS X st (rdS G W (sForR rng2 ag (sBody put sf))) := by
  refine PS.to h fun Dn σ H ⟨am, e0, rho, mu, F, s, r, mu', e, k⟩ => ?_
  refine with_useA s e k fun ds m1 vs H1 F1 e1 q s1 rv k1 => ?_
  cases hd : rng2 ds with
  | none => rw [hd] at e1; cases e1
  | some p =>
    obtain ⟨lo, n⟩ := p
    rw [hd] at e1
    obtain ⟨i, j, ev, h1, hlo, hn⟩ := rng2_ints rv hd
    rw [hlo, hn] at e1
    exact ⟨i, j, ev, h1, range_go hg s1 e1 k1⟩
/-- while: so many turns at most -/
def whileN (t : BM) (body : SM) : Nat → SM
  | 0 => fun _ _ => none
  | n + 1 => sWith t fun b rho mu => if b = true then (match body rho mu with
      | none => none
      | some (.fl .nx rho', m) => whileN t body n rho' m
      | some (.fl .ct rho', m) => whileN t body n rho' m
      | some (.fl .bk rho', m) => some (.fl .nx rho', m)
      | r => r) else some (.fl .nx rho, mu)
theorem s_while {t : BM} (n : Nat) (h : PS X st (tWhile (rdT G W t) (rdS G W sf))) : PS X st (rdS G W (whileN t sf n)) := by
  refine PS.to h fun Dn σ H ⟨am, e0, rho, mu, F, s, r, mu', e, k⟩ => ?_
  refine ⟨fun n σ' H' => ∃ (rho' : List Slot) (m' : Mu) (F' : Hp), Sta G am e0 rho' m' σ' H' F' ∧ whileN t sf n rho' m' = some (r, mu') ∧ KoS G W am e0 F' mu' Dn r, ⟨n, rho, mu, F, s, e, k⟩, ?_⟩
  rintro n σ' H' ⟨rho', m', F', s', e', k'⟩
  cases n with
  | zero => cases e'
  | succ n =>
    refine with_useT s' e' k' fun b m1 H1 F1 e1 q s1 k1 => ?_
    cases b with
    | false =>
      cases e1
      exact k1 σ' H1 F1 (Ex.refl F1) s1
    | true =>
      show ∃ N : L2.St → Hp → Prop, _
      refine ⟨fun σ2 H2 => ∃ (rho2 : List Slot) (m2 : Mu) (F2 : Hp), Sta G am e0 rho2 m2 σ2 H2 F2 ∧ whileN t sf n rho2 m2 = some (r, mu') ∧ KoS G W am e0 F2 mu' Dn r, fun σ2 H2 z => ⟨n, Nat.lt_succ_self n, z⟩, ?_⟩
      have e2 : (match sf rho' m1 with
        | none => none
        | some (.fl .nx rho', m) => whileN t sf n rho' m
        | some (.fl .ct rho', m) => whileN t sf n rho' m
        | some (.fl .bk rho', m) => some (.fl .nx rho', m)
        | r => r) = some (r, mu') := e1
      cases e3 : sf rho' m1 with
      | none => rw [e3] at e2; cases e2
      | some z =>
        obtain ⟨r1, m2⟩ := z
        rw [e3] at e2
        refine ⟨am, e0, rho', m1, F1, s1, r1, m2, e3, ?_⟩
        cases r1 with
        | ex c ds rho1 =>
          cases e2
          exact k1
        | fl fl rho1 =>
          cases fl with
          | nx => exact fun σ2 H2 F2 q2 s2 => ⟨rho1, m2, F2, s2, e2, KoS.pre q2 k1⟩
          | ct => exact fun σ2 H2 F2 q2 s2 => ⟨rho1, m2, F2, s2, e2, KoS.pre q2 k1⟩
          | bk =>
            cases e2
            exact k1
          | rt d =>
            cases e2
            exact k1
end
end Mi
end
section
set_option Elab.async false
set_option linter.all false
set_option maxRecDepth 100000
set_option maxHeartbeats 4000000
namespace Mi
open PySem PySem.Spec PyProof.Rows L2
open Evl (Ex)
section
variable {X : Cx} {G : Cl} {W : WX} {pos : Pos} {a b c e : Expr} {f g h : EM} {st : Stmt} {sf sg : SM} {am : Addr} {e0 : En} {H F H' F' : Hp} {rho : List Slot} {mu mu' : Mu} {σ : L2.St}
theorem set_get {α : Type} {l : List α} {i j : Nat} {x y : α} (h : (l.set i x)[j]? = some y) : (j = i ∧ y = x ∧ i < l.length) ∨ (j ≠ i ∧ l[j]? = some y) := by
  by_cases hj : i = j
  · subst hj
    have hl : i < l.length := by
      have z := (List.getElem?_eq_some_iff.mp h).1
      simpa using z
    rw [List.getElem?_set_self hl] at h
    cases h
    exact .inl ⟨rfl, rfl, hl⟩
  · rw [List.getElem?_set_ne hj] at h
    exact .inr ⟨Ne.symm hj, h⟩
/-! ### a slot that owns a new list -/
theorem Sta.setO {i : Nat} {p : Addr} {o : HO} {w : Ow} (nw : ∀ c ds, w ≠ .ins c ds) (s : Sta G am e0 rho mu σ H F) (q : Post G am mu H F mu' H' F') (n : H p = none) (e : H' p = some o) (ef : F' p = none) (hp : mu = none ∨ p ≠ am) (r : OwOk G F' am o w) :
    Sta G am e0 (rho.set i (.ow w)) mu' (σ.set i (some (.ref p))) H' F' := by
  have s' := s.post q
  have en : e0.H p = none := by
    cases z : e0.H p with
    | none => rfl
    | some u =>
      obtain ⟨o', e', _⟩ := s.keep p u hp z
      rw [e'] at n
      cases n
  have npo : ∀ (j : Nat) (w' : Ow) (a : Addr), rho[j]? = some (.ow w') → σ[j]? = some (some (.ref a)) → a ≠ p := fun j w' a h1 h2 z => by
    obtain ⟨b, u, g1, g2, _⟩ := s.ow j w' h1
    rw [h2] at g1
    cases g1
    rw [z, n] at g2
    cases g2
  exact {
    sub := s'.sub
    len := by rw [List.length_set, List.length_set]; exact s.len
    va := fun j d h => by
      rcases set_get h with ⟨_, z, _⟩ | ⟨hj, h⟩
      · cases z
      · rw [List.getElem?_set_ne (Ne.symm hj)]
        exact s'.va j d h
    ow := fun j w' h => by
      rcases set_get h with ⟨rfl, z, hl⟩ | ⟨hj, h⟩
      · cases z
        exact ⟨p, o, by rw [List.getElem?_set_self (by rw [s.len]; exact hl)], e, ef, r, hp.imp (fun z => q.mm.mp z) id, en⟩
      · rw [List.getElem?_set_ne (Ne.symm hj)]
        exact s'.ow j w' h
    dj := fun j k ds es a hjk h1 h2 h3 h4 => by
      rcases set_get h1 with ⟨ej, z, hl⟩ | ⟨hj, g1⟩
      · rcases set_get h2 with ⟨hk, _, _⟩ | ⟨hk, g2⟩
        · exact hjk (ej.trans hk.symm)
        · rw [ej, List.getElem?_set_self (by rw [s.len]; exact hl)] at h3
          rw [List.getElem?_set_ne (Ne.symm hk)] at h4
          cases h3
          exact npo k es p g2 h4 rfl
      · rw [List.getElem?_set_ne (Ne.symm hj)] at h3
        rcases set_get h2 with ⟨ek, z, hl⟩ | ⟨hk, g2⟩
        · rw [ek, List.getElem?_set_self (by rw [s.len]; exact hl)] at h4
          cases h4
          exact npo j ds p g1 h3 rfl
        · rw [List.getElem?_set_ne (Ne.symm hk)] at h4
          exact s.dj j k ds es a hjk g1 g2 h3 h4
    oi := fun j c ds a h h' => by
      rcases set_get h with ⟨_, z, _⟩ | ⟨hj, h⟩
      · cases z
        exact absurd rfl (nw c ds)
      · rw [List.getElem?_set_ne (Ne.symm hj)] at h'
        exact s.oi j c ds a h h'
    mr := s'.mr
    keep := s'.keep
    tb := s'.tb
    fF := s'.fF
    new := s'.new
    mz := s'.mz }
def sSetO (i : Nat) (f : EM) : SM := sWith f fun v rho m => match v with
  | .fr ds => some (.fl .nx (rho.set i (.ow (.lst ds))), m)
  | .fz _ => none
theorem s_setO {i : Nat} (h : PS X st (tAsg (rd G W f) (gName i))) : PS X st (rdS G W (sSetO i f)) := by
  refine PS.to h fun Dn σ H ⟨am, e0, rho, mu, F, s, r, mu', e, k⟩ => ?_
  unfold sSetO sWith at e
  cases e1 : f rho mu with
  | none => rw [e1] at e; cases e
  | some z =>
    obtain ⟨o1, m1⟩ := z
    rw [e1] at e
    cases o1 with
    | ex c ds =>
      cases e
      exact ⟨am, e0, rho, mu, F, s, _, _, e1, kx_of s k⟩
    | ok vl =>
      cases vl with
      | fz d => cases e
      | fr ds =>
        cases e
        exact ⟨am, e0, rho, mu, F, s, _, _, e1, fun p xs H1 F1 q n ep ef hp r1 => k _ H1 F1 q.fF (Sta.setO (fun _ _ z => by cases z) s q n ep ef hp ⟨xs, rfl, r1⟩)⟩
/-- what a slot owns is changed -/
theorem Sta.mut {i : Nat} {p : Addr} {o : HO} {w w' : Ow} (s : Sta G am e0 rho mu σ H F) (hi : rho[i]? = some (.ow w)) (hs : σ[i]? = some (some (.ref p))) (r : OwOk G F am o w') (hw : ∀ c ds, w' = .ins c ds → ∃ c' ds', w = .ins c' ds') : Sta G am e0 (rho.set i (.ow w')) mu σ (upd H p o) F := by
  obtain ⟨p', o', h1, h2, h3, h4, h5, h6⟩ := s.ow i w hi
  rw [hs] at h1
  cases h1
  have nf : ∀ (b : Addr) (u : HO), F b = some u → b ≠ p := fun b u e z => by rw [z, h3] at e; cases e
  exact {
    sub := fun b u e => by rw [upd_ne (nf b u e)]; exact s.sub b u e
    len := by rw [List.length_set]; exact s.len
    va := fun j d h => by
      rcases set_get h with ⟨_, z, _⟩ | ⟨hj, h⟩
      · cases z
      · exact s.va j d h
    ow := fun j v h => by
      rcases set_get h with ⟨rfl, z, hl⟩ | ⟨hj, h⟩
      · cases z
        exact ⟨p, o, hs, upd_same, h3, r, h5, h6⟩
      · obtain ⟨q, u, g1, g2, g3⟩ := s.ow j v h
        have nq : q ≠ p := fun z => by
          rw [z] at g1
          exact s.dj i j w v p (Ne.symm hj) hi h hs g1
        exact ⟨q, u, g1, by rw [upd_ne nq]; exact g2, g3⟩
    dj := fun j k ds es a hjk g1 g2 => by
      have go : ∀ (j : Nat) (v : Ow), (rho.set i (.ow w'))[j]? = some (.ow v) → ∃ v', rho[j]? = some (.ow v') := fun j v h => by
        rcases set_get h with ⟨rfl, _, _⟩ | ⟨_, h⟩
        · exact ⟨w, hi⟩
        · exact ⟨v, h⟩
      obtain ⟨v1, z1⟩ := go j ds g1
      obtain ⟨v2, z2⟩ := go k es g2
      exact s.dj j k v1 v2 a hjk z1 z2
    oi := fun j c ds a h h' => by
      rcases set_get h with ⟨rfl, z, _⟩ | ⟨hj, h⟩
      · cases z
        obtain ⟨c', ds', ew⟩ := hw c ds rfl
        rw [ew] at hi
        exact s.oi j c' ds' a hi h'
      · exact s.oi j c ds a h h'
    mr := s.mr.mono (fun hm => by
      have m := s.mr
      cases mu with
      | none => exact absurd rfl hm
      | some es => exact m.1) (Ex.refl F) fun xs hm h => by
        have na : am ≠ p := by
          rcases h5 with z | z
          · exact absurd z hm
          · exact Ne.symm z
        rw [upd_ne na]
        exact h
    keep := fun b u hb e => by
      have nb : b ≠ p := fun z => by rw [z, h6] at e; cases e
      rw [upd_ne nb]
      exact s.keep b u hb e
    tb := by
      obtain ⟨a', o', g1, g2, _, g4, _⟩ := s.ow i _ hi
      rw [hs] at g1
      cases g1
      exact (gd_chg g2 g4.nt g4.ne g4.nx).gd s.tb
    fF := s.fF
    new := s.new
    mz := s.mz }
def owL : Option Slot → Option (List D)
  | some (.ow (.lst ds)) => some ds
  | _ => none
theorem owL_some {o : Option Slot} {ds : List D} (h : owL o = some ds) : o = some (.ow (.lst ds)) := by
  cases o with
  | none => cases h
  | some z =>
    cases z with
    | ow w =>
      cases w <;> cases h
      rfl
    | _ => cases h
/-- x.append(e) -/
def sApp (i : Nat) (f : EM) : SM := fun rho mu => match owL rho[i]? with
  | some ds => sWith f (fun v rho m => if ds.length < 100000 then some (.fl .nx (rho.set i (.ow (.lst (ds ++ [v.d])))), m) else none) rho mu
  | none => none
theorem s_app {i : Nat} (h : PS X st (tDrop (tBM X.K "list" rAppend (tVar i) (tCons (rd G W f) tNil)))) : PS X st (rdS G W (sApp i f)) := by
  refine PS.to h fun Dn σ H ⟨am, e0, rho, mu, F, s, r, mu', e, k⟩ => ?_
  unfold sApp at e
  cases hd : owL rho[i]? with
  | none => rw [hd] at e; cases e
  | some ds =>
    rw [hd] at e
    have hi := owL_some hd
    obtain ⟨p, o, h1, h2, h3, h4, h5, h6⟩ := s.ow i _ hi
    obtain ⟨xs, rfl, rx⟩ := h4
    refine ⟨.ref p, h1, .inl ⟨rfl, xs, Evl.sq_of h2⟩, ?_⟩
    refine with_use s e k fun vl m1 v H1 F1 e1 q s1 rv k1 => ?_
    obtain ⟨c, e3⟩ := ite_some e1
    cases e3
    obtain ⟨p', o', g1, g2, g3, ⟨xs', eo, rx'⟩, _, _⟩ := s1.ow i _ hi
    rw [h1] at g1
    cases g1
    subst eo
    refine ⟨p, xs', v, rfl, rfl, g2, Evl.sz_lt (by rw [rx'.length]; exact c), ?_⟩
    exact k1 σ _ F1 (Ex.refl F1) (s1.mut hi h1 ⟨_, rfl, rx'.append (.cons rv .nil)⟩ fun _ _ z => by cases z)

/-! ### the mug, items -/
def ixD (mu : Mu) : D → D → Option Vl
  | .lst ds, .int i => (atI ds i).map .fz
  | .tup ds, .int i => (atI ds i).map .fz
  | .scr ns, .int i => (atI ns i).map fun n => .fz (.int n)
  | .mug, .int i => match mu with
    | some ds => (atI ds i).map .fz
    | none => none
  | .str x, .int i => if x.length ≤ 100000 then (atI x.cps.toList i).map fun c => .fz (.str ⟨#[c]⟩) else none
  | _, _ => none
def eIx (f g : EM) : EM := fun rho => M.bind (f rho) fun x => M.bind (g rho) fun y => fun mu => M.of (ixD mu x.d y.d) mu
theorem at_all {xs : List V} {ds : List D} {i : Int} {d : D} (r : RpAll G F am xs ds) (h : atI ds i = some d) : ∃ v, atI xs i = some v ∧ Rp G F am v d := by
  unfold atI at h ⊢
  rw [r.length]
  cases e : ixN ds.length i with
  | none => rw [e] at h; cases h
  | some j =>
    rw [e] at h
    exact r.get h
theorem map_some {α β : Type} {o : Option α} {k : α → β} {b : β} (h : o.map k = some b) : ∃ a, o = some a ∧ k a = b := by
  cases o with
  | none => cases h
  | some a => exact ⟨a, rfl, Option.some.inj h⟩
theorem ix_strD {mu : Mu} {x : Str} {i : Int} {vl : Vl} (h : ixD mu (.str x) (.int i) = some vl) : x.length ≤ 100000 ∧ ∃ c, atI x.cps.toList i = some c ∧ vl = .fz (.str ⟨#[c]⟩) := by
  have h' : (if x.length ≤ 100000 then (atI x.cps.toList i).map fun c => Vl.fz (.str ⟨#[c]⟩) else none) = some vl := h
  by_cases hc : x.length ≤ 100000
  · rw [if_pos hc] at h'
    obtain ⟨c, h1, h2⟩ := map_some h'
    exact ⟨hc, c, h1, h2.symm⟩
  · rw [if_neg hc] at h'
    cases h'
theorem d_ixs (hK : X.K = G.K) (ha : PE X a (rd G W f)) (hb : PE X b (rd G W g)) (hs : PlainIx b) : PE X (.Subscript a b pos) (rd G W (eIx f g)) := by
  refine PE.to (pe_ix ix_seq ha hb hs) fun σ H Q ⟨am, e0, rho, mu, F, s, o, mu', e, k⟩ => ?_
  rw [hK]
  refine rd_then s e k.x fun vx m1 x H1 F1 e1 p1 s1 rx => ?_
  have k1 := Ko.pre s.sub s.mr p1 k
  refine rd_then s1 e1 k1.x fun vy m2 y H2 F2 e2 p2 s2 ry => ?_
  obtain ⟨z, hz, rfl, rfl⟩ := of_some (show M.of (ixD m2 vx.d vy.d) m2 = some (o, mu') from e2)
  have k2 := Kd.pre s1.sub s1.mr p2 k1
  have r2 := rx.mono p2.fF
  cases hy : vy.d with
  | int i =>
    rw [hy] at hz ry
    cases ry
    cases hx : vx.d with
    | lst ds =>
      rw [hx] at hz r2
      obtain ⟨d, h1, rfl⟩ := map_some hz
      cases r2 with
      | lst g1 g2 =>
        obtain ⟨v, h2, h3⟩ := at_all g2 h1
        exact .inl ⟨_, _, i, v, rfl, rfl, Evl.sq_of (s2.sub _ _ g1), h2, Kd.fz s2.sub s2.mr h3 k2⟩
    | tup ds =>
      rw [hx] at hz r2
      obtain ⟨d, h1, rfl⟩ := map_some hz
      cases r2 with
      | tup g1 g2 =>
        obtain ⟨v, h2, h3⟩ := at_all g2 h1
        exact .inr (.inl ⟨_, _, i, v, rfl, rfl, Evl.ex_t s2.sub g1, h2, Kd.fz s2.sub s2.mr h3 k2⟩)
    | scr ns =>
      rw [hx] at hz r2
      obtain ⟨d, h1, rfl⟩ := map_some hz
      cases r2 with
      | scr g1 =>
        refine .inl ⟨_, _, i, .int d, rfl, rfl, Evl.ex_l s2.sub g1, ?_, Kd.fz s2.sub s2.mr (.int d) k2⟩
        unfold atI at h1 ⊢
        rw [List.length_map]
        cases ez : ixN ns.length i with
        | none => rw [ez] at h1; cases h1
        | some j =>
          rw [ez] at h1
          show (ns.map V.int)[j]? = _
          rw [List.getElem?_map, show ns[j]? = some d from h1]
          rfl
    | mug =>
      rw [hx] at hz r2
      cases r2
      cases hm : mu' with
      | none =>
        rw [hm] at hz
        cases hz
      | some ds =>
        rw [hm] at hz
        obtain ⟨d, h1, rfl⟩ := map_some hz
        have m := s2.mr
        rw [hm] at m
        obtain ⟨_, xs, g1, g2⟩ := m
        obtain ⟨v, h2, h3⟩ := at_all g2 h1
        exact .inl ⟨_, _, i, v, rfl, rfl, Evl.sq_of g1, h2, Kd.fz s2.sub s2.mr h3 k2⟩
    | str z =>
      rw [hx] at hz r2
      cases r2
      obtain ⟨c, d, h1, rfl⟩ := ix_strD hz
      exact .inr (.inr ⟨z, i, d, rfl, rfl, szL c, h1, Kd.fz s2.sub s2.mr (.str _) k2⟩)
    | _ => rw [hx] at hz; cases hz
  | _ =>
    rw [hy] at hz
    generalize vx.d = q at hz
    cases q <;> cases hz
/-- m[k] = e, m the mug -/
def muSet (mu : Mu) : D → D → D → Option (List D)
  | .mug, .int k, d => match mu with
    | some ds => (ixN ds.length k).map fun j => ds.set j d
    | none => none
  | _, _, _ => none
def sMug (fe fo fi : EM) : SM := sWith fe fun v rho => fun mu => sWith fo (fun o rho => fun mu => sWith fi (fun i rho => fun mu => match muSet mu o.d i.d v.d with
  | some ds => some (.fl .nx rho, some ds)
  | none => none) rho mu) rho mu
theorem s_mug {fe fo fi : EM} (h : PS X st (tAsg (rd G W fe) (gSub (rd G W fo) (rd G W fi) rSetL))) : PS X st (rdS G W (sMug fe fo fi)) := by
  refine PS.to h fun Dn σ H ⟨am, e0, rho, mu, F, s, r, mu', e, k⟩ => ?_
  refine with_use s e k fun vl m1 v H1 F1 e1 q1 s1 rv k1 => ?_
  refine with_use s1 e1 k1 fun vo m2 o H2 F2 e2 q2 s2 ro k2 => ?_
  refine with_use s2 e2 k2 fun vi m3 i H3 F3 e3 q3 s3 ri k3 => ?_
  cases hm : muSet m3 vo.d vi.d vl.d with
  | none =>
    have e4 : (match muSet m3 vo.d vi.d vl.d with
      | some ds => some (Res.fl .nx rho, some ds)
      | none => none) = some (r, mu') := e3
    rw [hm] at e4
    cases e4
  | some ds' =>
    have e4 : (match muSet m3 vo.d vi.d vl.d with
      | some ds => some (Res.fl .nx rho, some ds)
      | none => none) = some (r, mu') := e3
    rw [hm] at e4
    cases e4
    have ro2 := ro.mono q3
    have rv2 := (rv.mono q2).mono q3
    cases ho : vo.d with
    | mug =>
      rw [ho] at hm ro2
      cases ro2
      cases hi : vi.d with
      | int j =>
        rw [hi] at hm ri
        cases ri
        cases hz : m3 with
        | none => rw [hz] at hm; cases hm
        | some ds =>
          rw [hz] at hm
          obtain ⟨n, h1, rfl⟩ := map_some hm
          have m := s3.mr
          rw [hz] at m
          obtain ⟨g0, xs, g1, g2⟩ := m
          refine ⟨am, xs, j, n, rfl, rfl, g1, by rw [g2.length]; exact h1, ?_⟩
          refine k3 σ _ F3 (Ex.refl F3) ?_
          have nf : ∀ (b : Addr) (u : HO), F3 b = some u → b ≠ am := fun b u e z => by rw [z, g0] at e; cases e
          have mz : m3 ≠ none := by rw [hz]; simp
          have na : ∀ b : Addr, (some (ds.set n vl.d) : Mu) = none ∨ b ≠ am → b ≠ am := fun b hb => hb.elim (fun z => by cases z) id
          exact {
            sub := fun b u e => by rw [upd_ne (nf b u e)]; exact s3.sub b u e
            len := s3.len
            va := s3.va
            ow := fun j w h => by
              obtain ⟨p, o, a1, a2, a3, a4, a5, a6⟩ := s3.ow j w h
              have np : p ≠ am := a5.elim (fun z => absurd z mz) id
              exact ⟨p, o, a1, by rw [upd_ne np]; exact a2, a3, a4, .inr np, a6⟩
            dj := s3.dj
            oi := s3.oi
            mr := ⟨g0, _, upd_same, g2.set rv2 n⟩
            keep := fun b u hb e => by rw [upd_ne (na b hb)]; exact s3.keep b u (.inr (na b hb)) e
            tb := (gd_chg g1 (fun _ z => by cases z) (fun _ z => by cases z) (fun _ z => by cases z)).gd s3.tb
            fF := s3.fF
            new := s3.new
            mz := ⟨fun z => absurd (s3.mz.mp z) mz, fun z => by cases z⟩ }
      | _ => rw [hi] at hm; cases hm
    | _ => rw [ho] at hm; cases hm
end
end Mi
end
section
set_option Elab.async false
set_option linter.all false
set_option maxRecDepth 100000
set_option maxHeartbeats 4000000
namespace Mi
open PySem PySem.Spec PyProof.Rows L2
open Evl (Ex)

/-! ### owned lists seen as frozen ones -/
def thawS : Slot → Slot
  | .ow (.lst ds) => .va (.lst ds)
  | .ow (.ins _ _) => .no
  | s => s
def thawP (p : Nat → Bool) (rho : List Slot) : List Slot := rho.mapIdx fun i s => if p i = true then thawS s else s
mutual
/-- no list within -/
def noL : D → Bool
  | .lst _ => false
  | .scr _ => false
  | .mug => false
  | .tup ds => noLs ds
  | .ins _ ds => noLs ds
  | .exc _ ds => noLs ds
  | _ => true
def noLs : List D → Bool
  | [] => true
  | d :: ds => noL d && noLs ds
end
section
variable {X : Cx} {G : Cl} {W : WX} {pos : Pos} {a b c e : Expr} {f g h : EM} {st : Stmt} {sf sg : SM} {am : Addr} {e0 : En} {H F H' F' F1 : Hp} {rho : List Slot} {mu mu' : Mu} {σ : L2.St} {p : Nat → Bool}
theorem thaw_at (i : Nat) : (thawP p rho)[i]? = rho[i]?.map fun s => if p i = true then thawS s else s := List.getElem?_mapIdx ..
/-- the addresses of the lists that are thawed -/
def Tw (p : Nat → Bool) (rho : List Slot) (σ : L2.St) (a : Addr) : Prop := ∃ i ds, p i = true ∧ rho[i]? = some (Slot.ow (.lst ds)) ∧ σ[i]? = some (some (V.ref a))
open Classical in
noncomputable def twF (p : Nat → Bool) (rho : List Slot) (σ : L2.St) (H F : Hp) : Hp := fun a => if Tw p rho σ a then H a else F a
theorem Tw.lst {a : Addr} (s : Sta G am e0 rho mu σ H F) (t : Tw p rho σ a) : ∃ xs, H a = some (.lst xs) ∧ F a = none ∧ e0.H a = none ∧ (mu = none ∨ a ≠ am) := by
  obtain ⟨i, ds, _, h1, h2⟩ := t
  obtain ⟨q, o, g1, g2, g3, ⟨xs, rfl, _⟩, g5, g6⟩ := s.ow i _ h1
  rw [h2] at g1
  cases g1
  exact ⟨xs, g2, g3, g6, g5⟩
theorem tw_ex (s : Sta G am e0 rho mu σ H F) : Ex F (twF p rho σ H F) := fun a o e => by
  have n : ¬ Tw p rho σ a := fun t => by
    obtain ⟨xs, _, h, _⟩ := t.lst s
    rw [h] at e
    cases e
  unfold twF
  rw [if_neg n]
  exact e
theorem Sta.thaw (s : Sta G am e0 rho mu σ H F) : Sta G am e0 (thawP p rho) mu σ H (twF p rho σ H F) where
  sub := fun a o e => by
    unfold twF at e
    split at e
    · exact e
    · exact s.sub a o e
  len := by
    unfold thawP
    rw [List.length_mapIdx]
    exact s.len
  va := fun i d h => by
    rw [thaw_at] at h
    obtain ⟨sl, h1, h2⟩ := map_some h
    by_cases hp : p i = true
    · rw [if_pos hp] at h2
      cases sl with
      | no => cases h2
      | va d' =>
        cases h2
        obtain ⟨v, g1, g2⟩ := s.va i _ h1
        exact ⟨v, g1, g2.mono (tw_ex s)⟩
      | ow w =>
        cases w with
        | ins c ds => cases h2
        | lst ds =>
          cases h2
          obtain ⟨q, o, g1, g2, g3, ⟨xs, rfl, g4⟩, g5, g6⟩ := s.ow i _ h1
          refine ⟨.ref q, g1, .lst ?_ (g4.mono (tw_ex s))⟩
          unfold twF
          rw [if_pos ⟨i, ds, hp, h1, g1⟩]
          exact g2
    · rw [if_neg hp] at h2
      subst h2
      obtain ⟨v, g1, g2⟩ := s.va i _ h1
      exact ⟨v, g1, g2.mono (tw_ex s)⟩
  ow := fun i w h => by
    rw [thaw_at] at h
    obtain ⟨sl, h1, h2⟩ := map_some h
    by_cases hp : p i = true
    · rw [if_pos hp] at h2
      cases sl with
      | no => cases h2
      | va d' => cases h2
      | ow w => cases w <;> cases h2
    · rw [if_neg hp] at h2
      subst h2
      obtain ⟨q, o, g1, g2, g3, g4, g5, g6⟩ := s.ow i w h1
      refine ⟨q, o, g1, g2, ?_, g4.mono (tw_ex s), g5, g6⟩
      have n : ¬ Tw p rho σ q := fun ⟨j, ds, z1, z2, z3⟩ => by
        have hij : i ≠ j := fun z => hp (by rw [z]; exact z1)
        exact s.dj i j w (.lst ds) q hij h1 z2 g1 z3
      unfold twF
      rw [if_neg n]
      exact g3
  dj := fun i j ds es a hij h1 h2 => by
    have go : ∀ (i : Nat) (w : Ow), (thawP p rho)[i]? = some (.ow w) → rho[i]? = some (.ow w) := fun i w h => by
      rw [thaw_at] at h
      obtain ⟨sl, h1, h2⟩ := map_some h
      by_cases hp : p i = true
      · rw [if_pos hp] at h2
        cases sl with
        | no => cases h2
        | va d' => cases h2
        | ow w => cases w <;> cases h2
      · rw [if_neg hp] at h2
        subst h2
        exact h1
    exact s.dj i j ds es a hij (go i ds h1) (go j es h2)
  oi := fun i c ds a h h' => by
    rw [thaw_at] at h
    obtain ⟨sl, h1, h2⟩ := map_some h
    by_cases hp : p i = true
    · rw [if_pos hp] at h2
      cases sl with
      | no => cases h2
      | va d' => cases h2
      | ow w => cases w <;> cases h2
    · rw [if_neg hp] at h2
      subst h2
      exact s.oi i c ds a h1 h'
  mr := s.mr.mono (fun hm => by
    have m := s.mr
    cases mu with
    | none => exact absurd rfl hm
    | some es =>
      obtain ⟨h1, xs, h2, h3⟩ := m
      have n : ¬ Tw p rho σ am := fun t => by
        obtain ⟨_, _, _, _, h⟩ := t.lst s
        exact h.elim (fun z => by cases z) (fun z => z rfl)
      unfold twF
      rw [if_neg n]
      exact h1) (tw_ex s) fun _ _ h => h
  keep := s.keep
  tb := s.tb
  fF := s.fF.trans (tw_ex s)
  new := fun a h => by
    unfold twF at h
    split at h
    · rename_i t
      obtain ⟨_, _, _, g, _⟩ := t.lst s
      exact .inr g
    · exact s.new a h
  mz := s.mz
open Classical in
noncomputable def unF (p : Nat → Bool) (rho : List Slot) (σ : L2.St) (F' : Hp) : Hp := fun a => if Tw p rho σ a then none else F' a
theorem un_tup {a : Addr} {xs : List V} (s : Sta G am e0 rho mu σ H F) (x : Ex (twF p rho σ H F) F') (h : SqT G.K F' a xs) : SqT G.K (unF p rho σ F') a xs := by
  have na : ∀ o, F' a = some o → (∀ xs, o ≠ .lst xs) → unF p rho σ F' a = some o := fun o e nl => by
    have n : ¬ Tw p rho σ a := fun t => by
      obtain ⟨ys, g, _⟩ := t.lst s
      have z : twF p rho σ H F a = some (.lst ys) := by
        unfold twF
        rw [if_pos t]
        exact g
      have z2 := x a _ z
      rw [e] at z2
      exact nl ys (Option.some.inj z2)
    unfold unF
    rw [if_neg n]
    exact e
  rcases h with (h | ⟨o, h⟩) | h
  · exact .inl (.inl (na _ h fun _ z => by cases z))
  · exact .inl (.inr ⟨o, na _ h fun _ z => by cases z⟩)
  · exact .inr h
mutual
theorem un_rp (s : Sta G am e0 rho mu σ H F) (x : Ex (twF p rho σ H F) F') : ∀ {v : V} {d : D}, Rp G F' am v d → noL d = true → Rp G (unF p rho σ F') am v d
  | _, _, .non, _ => .non
  | _, _, .bl b, _ => .bl b
  | _, _, .int i, _ => .int i
  | _, _, .str x, _ => .str x
  | _, _, .lst h r, z => by cases z
  | _, _, .scr h, z => by cases z
  | _, _, .mug, z => by cases z
  | _, _, .ty n, _ => .ty n
  | _, _, .cls c, _ => .cls c
  | _, _, .tup h r, z => .tup (un_tup s x h) (un_all s x r z)
  | _, _, .ins (a := a) (dx := dx) h l r, z => by
    refine .ins (dx := dx) ?_ l (un_all s x r z)
    have n : ¬ Tw p rho σ a := fun t => by
      obtain ⟨ys, g, _⟩ := t.lst s
      have z : twF p rho σ H F a = some (.lst ys) := by
        unfold twF
        rw [if_pos t]
        exact g
      have z2 := x a _ z
      rw [h] at z2
      cases z2
    unfold unF
    rw [if_neg n]
    exact h
  | _, _, .exc h0 l r, z => .exc h0 l (un_all s x r z)
  | _, _, .emp (a := a) h, z => by
    refine .emp ?_
    have n : ¬ Tw p rho σ a := fun t => by
      obtain ⟨ys, g, _⟩ := t.lst s
      have z : twF p rho σ H F a = some (.lst ys) := by
        unfold twF
        rw [if_pos t]
        exact g
      have z2 := x a _ z
      rw [h] at z2
      cases z2
    unfold unF
    rw [if_neg n]
    exact h
theorem un_all (s : Sta G am e0 rho mu σ H F) (x : Ex (twF p rho σ H F) F') : ∀ {vs : List V} {ds : List D}, RpAll G F' am vs ds → noLs ds = true → RpAll G (unF p rho σ F') am vs ds
  | _, _, .nil, _ => .nil
  | _, _, .cons h r, z => by
    have z' : (noL _ && noLs _) = true := z
    rw [Bool.and_eq_true] at z'
    exact .cons (un_rp s x h z'.1) (un_all s x r z'.2)
end
def noM : Mu → Bool
  | none => true
  | some ds => noLs ds
theorem un_post (s : Sta G am e0 rho mu σ H F) (q : Post G am mu H (twF p rho σ H F) mu' H' F') (z : noM mu' = true) : Post G am mu H F mu' H' (unF p rho σ F') where
  keep := q.keep
  tb := q.tb
  fF := fun a o e => by
    have n : ¬ Tw p rho σ a := fun t => by
      obtain ⟨_, _, h, _⟩ := t.lst s
      rw [h] at e
      cases e
    unfold unF
    rw [if_neg n]
    exact q.fF a o (tw_ex s a o e)
  sub := fun a o e => by
    unfold unF at e
    split at e
    · cases e
    · exact q.sub a o e
  new := fun a h => by
    unfold unF at h
    split at h
    · exact absurd rfl h
    · rename_i n
      rcases q.new a h with z | z
      · unfold twF at z
        rw [if_neg n] at z
        exact .inl z
      · exact .inr z
  mr := by
    cases mu' with
    | none => trivial
    | some ds =>
      obtain ⟨h1, xs, h2, h3⟩ := q.mr
      refine ⟨?_, xs, h2, un_all s q.fF h3 z⟩
      unfold unF
      split
      · rfl
      · exact h1
  mm := q.mm
/-- an expression that looks at owned lists, but hands none of them on -/
def eThaw (p : Nat → Bool) (f : EM) : EM := fun rho mu => match f (thawP p rho) mu with
  | some (.ok (.fz d), mu') => if (noL d && noM mu') = true then some (.ok (.fz d), mu') else none
  | some (.ok (.fr ds), mu') => if (noLs ds && noM mu') = true then some (.ok (.fr ds), mu') else none
  | _ => none
theorem thaw_to (p : Nat → Bool) {σ : L2.St} {H : Hp} {Q : VK} (q : rd G W (eThaw p f) σ H Q) : rd G W f σ H Q := by
  obtain ⟨am, e0, rho, mu, F, s, o, mu', e, k⟩ := q
  unfold eThaw at e
  cases e1 : f (thawP p rho) mu with
  | none => rw [e1] at e; cases e
  | some z =>
    obtain ⟨o1, m1⟩ := z
    rw [e1] at e
    cases o1 with
    | ex c ds => cases e
    | ok vl =>
      refine ⟨am, e0, _, mu, _, s.thaw (p := p), _, _, e1, ?_⟩
      cases vl with
      | fz d =>
        obtain ⟨c, e2⟩ := ite_some e
        cases e2
        rw [Bool.and_eq_true] at c
        exact fun v H' F' q r => k v H' _ (un_post s q c.2) (un_rp s q.fF r c.1)
      | fr ds =>
        obtain ⟨c, e2⟩ := ite_some e
        cases e2
        rw [Bool.and_eq_true] at c
        refine fun v xs H' F' q n ep ef hp r => k v xs H' _ (un_post s q c.2) n ep ?_ hp (un_all s q.fF r c.1)
        unfold unF
        split
        · rfl
        · exact ef
theorem d_thaw (p : Nat → Bool) (h : PE X a (rd G W f)) : PE X a (rd G W (eThaw p f)) := PE.to h fun _ _ _ q => thaw_to p q
theorem asg_thaw (p : Nat → Bool) {gt : TG} (h : PS X st (tAsg (rd G W f) gt)) : PS X st (tAsg (rd G W (eThaw p f)) gt) := PS.to h fun _ _ _ q => thaw_to p q
def bThaw (p : Nat → Bool) (f : BM) : BM := fun rho mu => match f (thawP p rho) mu with
  | some (.ok b, mu') => if noM mu' = true then some (.ok b, mu') else none
  | _ => none
theorem t_thaw {tf : BM} (p : Nat → Bool) (h : PT X a (rdT G W tf)) : PT X a (rdT G W (bThaw p tf)) := by
  refine PT.to h fun σ H Q ⟨am, e0, rho, mu, F, s, o, mu', e, k⟩ => ?_
  unfold bThaw at e
  cases e1 : tf (thawP p rho) mu with
  | none => rw [e1] at e; cases e
  | some z =>
    obtain ⟨o1, m1⟩ := z
    rw [e1] at e
    cases o1 with
    | ex c ds => cases e
    | ok b =>
      refine ⟨am, e0, _, mu, _, s.thaw (p := p), _, _, e1, ?_⟩
      obtain ⟨c, e2⟩ := ite_some e
      cases e2
      exact fun H' F' q => k H' _ (un_post s q c)
/-- from here on the lists of these slots are frozen -/
def sFrz (p : Nat → Bool) (f : SM) : SM := fun rho mu => f (thawP p rho) mu
theorem s_frz (p : Nat → Bool) (h : PS X st (rdS G W sf)) : PS X st (rdS G W (sFrz p sf)) := by
  refine PS.to h fun Dn σ H ⟨am, e0, rho, mu, F, s, r, mu', e, k⟩ => ?_
  exact ⟨am, e0, _, mu, _, s.thaw (p := p), r, mu', e, KoS.pre (tw_ex s) k⟩

/-! ### a def's promise, its body, its call -/
abbrev FM := List D → M Vl
def KoF (G : Cl) (am : Addr) (mu : Mu) (H F : Hp) (mu' : Mu) (Q : VK) (E : XK) : Out Vl → Prop
  | .ok vl => Kd G am mu H F mu' Q vl
  | .ex c cs => ∀ dd xs H' F', Post G am mu H F mu' H' F' → H' dd = some (xdOf G c xs) → RpAll G F' am xs cs → E (.ref (G.ca c)) (some dd) H'
def spF (G : Cl) (n : Nat) (f : FM) : Sp := fun vs H Q E => ∃ (am : Addr) (mu : Mu) (F : Hp) (ds : List D), Ex F H ∧ MR G H F am mu ∧ RpAll G F am vs ds ∧ Gd G H ∧ vs.length = n ∧ ∃ o mu', f ds mu = some (o, mu') ∧ KoF G am mu H F mu' Q E o
/-- what a body means for a def of n parameters and m names -/
def fnM (m : Nat) (body : SM) : FM := fun ds mu => match body (ds.map Slot.va ++ List.replicate (m - ds.length) Slot.no) mu with
  | some (.fl (.rt d) _, mu') => some (.ok d, mu')
  | some (.fl .nx _, mu') => some (.ok (.fz .non), mu')
  | some (.ex c cs _, mu') => some (.ex c cs, mu')
  | _ => none
theorem start_get {N : List Str} {vs : List V} {i : Nat} : (L2.start N vs)[i]? = if i < vs.length then (vs[i]?).map some else if i < vs.length + (N.length - vs.length) then some none else none := by
  unfold L2.start
  by_cases hi : i < vs.length
  · rw [List.getElem?_append_left (by simpa using hi), List.getElem?_map, if_pos hi]
  · rw [List.getElem?_append_right (by simpa using hi), if_neg hi, List.getElem?_replicate, List.length_map]
    by_cases h2 : i < vs.length + (N.length - vs.length)
    · rw [if_pos h2, if_pos (by omega)]
    · rw [if_neg h2, if_neg (by omega)]
theorem sta_start {N : List Str} {vs : List V} {ds : List D} (hf : Ex F H) (m : MR G H F am mu) (r : RpAll G F am vs ds) (tt : Gd G H) : Sta G am ⟨mu, H, F, 0⟩ (ds.map Slot.va ++ List.replicate (N.length - ds.length) Slot.no) mu (L2.start N vs) H F where
  sub := hf
  len := by
    unfold L2.start
    rw [List.length_append, List.length_append, List.length_map, List.length_map, List.length_replicate, List.length_replicate, r.length]
  va := fun i d h => by
    by_cases hi : i < ds.length
    · rw [List.getElem?_append_left (by simpa using hi), List.getElem?_map] at h
      obtain ⟨d', h1, h2⟩ := map_some h
      cases h2
      obtain ⟨v, g1, g2⟩ := r.get h1
      exact ⟨v, by rw [start_get, if_pos (by rw [r.length]; exact hi), g1]; rfl, g2⟩
    · rw [List.getElem?_append_right (by simpa using hi), List.getElem?_replicate] at h
      split at h <;> cases h
  ow := fun i w h => by
    by_cases hi : i < ds.length
    · rw [List.getElem?_append_left (by simpa using hi), List.getElem?_map] at h
      obtain ⟨d', h1, h2⟩ := map_some h
      cases h2
    · rw [List.getElem?_append_right (by simpa using hi), List.getElem?_replicate] at h
      split at h <;> cases h
  dj := fun i j w w' q _ h => by
    by_cases hi : i < ds.length
    · rw [List.getElem?_append_left (by simpa using hi), List.getElem?_map] at h
      obtain ⟨d', h1, h2⟩ := map_some h
      cases h2
    · rw [List.getElem?_append_right (by simpa using hi), List.getElem?_replicate] at h
      split at h <;> cases h
  oi := fun i c cs q h => by
    by_cases hi : i < ds.length
    · rw [List.getElem?_append_left (by simpa using hi), List.getElem?_map] at h
      obtain ⟨d', h1, h2⟩ := map_some h
      cases h2
    · rw [List.getElem?_append_right (by simpa using hi), List.getElem?_replicate] at h
      split at h <;> cases h
  mr := m
  keep := fun _ o _ e => ⟨o, e, fun _ => rfl⟩
  tb := tt
  fF := Ex.refl F
  new := fun _ h => .inl h
  mz := Iff.rfl
theorem body_to {N : List Str} {vs : List V} {n : Nat} {fm : FM} {Q : VK} {E : XK} (hfm : ∀ ds mu, fm ds mu = fnM N.length sf ds mu) (h : spF G n fm vs H Q E) : rdS G (fun cls d _ H' => E cls d H') sf { nx := fun _ H' => Q .non H', rt := Q } (L2.start N vs) H := by
  obtain ⟨am, mu, F, ds, hf, m, r, tt, hl, o, mu', e, k⟩ := h
  rw [hfm] at e
  unfold fnM at e
  have s := sta_start (N := N) hf m r tt
  cases e1 : sf (ds.map Slot.va ++ List.replicate (N.length - ds.length) Slot.no) mu with
  | none => rw [e1] at e; cases e
  | some z =>
    obtain ⟨r1, m1⟩ := z
    rw [e1] at e
    refine ⟨am, _, _, mu, F, s, r1, m1, e1, ?_⟩
    cases r1 with
    | ex c cs rho' =>
      cases e
      exact fun dd xs σ' H' F' _ s' hd rx => k dd xs H' F' s'.whole hd rx
    | fl fl rho' =>
      cases fl with
      | nx =>
        cases e
        exact fun σ' H' F' _ s' => k .non H' F' s'.whole .non
      | rt d =>
        cases e
        exact k
      | bk => cases e
      | ct => cases e
theorem spF_len {n : Nat} {fm : FM} {vs : List V} {Q : VK} {E : XK} (h : spF G n fm vs H Q E) : vs.length = n := by
  obtain ⟨_, _, _, _, _, _, _, _, hl, _⟩ := h
  exact hl
/-- a def of the text keeps the promise of its body's meaning -/
theorem fn_ok {P : Program} {w : World} {K : PySem.W.Frag} {mg : Str → Option Value} {base : Heap} {x qual : Str} {st : Stmt} {fa : Addr} {fd : FuncData} {N ps : List Str} {k : Nat} {fm : FM} (Fn : Fun K x qual st fa fd) (S : FnScope N ps (defScope st))
    (hfm : ∀ ds mu, fm ds mu = fnM N.length sf ds mu)
    (hbody : ∀ (cdv : Value) (A : Around) (outer : List Env) (s : Shared) (H : Hp) (E : XK), Room k (A.deeper (envOfC qual (defScope st) s.heap.objs.size fa cdv)) →
      PSs (cxOf (L2.CX P w) P w K mg base N qual (defScope st) fa cdv A outer s H E) (defBody st) (rdS G (fun cls d _ H' => E cls d H') sf)) : FnOk P w K mg base (L2.CX P w) (k + 1) fa fd ps (spF G ps.length fm) := by
  refine Fn.okX S (fun vs H Q E h => spF_len h) fun cdv A outer s H vs Q E hr h => ?_
  exact ⟨_, hbody cdv A outer s H E hr, body_to hfm h⟩
/-- a call: the arguments, then the def's meaning -/
def eOwn (fm : FM) (g : AM) : EM := fun rho => M.bind (g rho) fun ds => M.bind (fm ds) fun d => M.pure d
theorem own_then {ag : AM} {n : Nat} {fm : FM} {Q : VK} {E : L2.St → XK} {ds : List D} {vs : List V} {o : Out Vl} (hE : ∀ cls d H', (E σ) cls d H' = W cls d σ H') (s : Sta G am e0 rho mu σ H F) (hl : vs.length = n) (r : RpAll G F am vs ds) (e : M.bind (fm ds) (fun d => M.pure d) mu = some (o, mu')) (k : Ko G W σ am mu H F mu' Q o) : spF G n fm vs H Q (E σ) := by
  unfold M.bind at e
  cases e1 : fm ds mu with
  | none => rw [e1] at e; cases e
  | some z =>
    obtain ⟨o1, m1⟩ := z
    rw [e1] at e
    refine ⟨am, mu, F, ds, s.sub, s.mr, r, s.tb, hl, o1, m1, e1, ?_⟩
    cases o1 with
    | ok d =>
      cases e
      exact k
    | ex c cs =>
      cases e
      exact fun dd xs H' F' q h r => by
        rw [hE]
        exact k dd xs H' F' q h r
theorem d_own {ag : AM} {n : Nat} {fm : FM} {E : L2.St → XK} (hE : ∀ σ cls d H', (E σ) cls d H' = W cls d σ H') (h : PE X e (tCallSD (spF G n fm) [] E (rdA G W ag))) (hn : ∀ rho mu ds m, ag rho mu = some (.ok ds, m) → ds.length = n) : PE X e (rd G W (eOwn fm ag)) := by
  refine PE.to h fun σ H Q ⟨am, e0, rho, mu, F, s, o, mu', e, k⟩ => ?_
  have e' : M.bind (ag rho) (fun ds => M.bind (fm ds) fun d => M.pure d) mu = some (o, mu') := e
  unfold M.bind at e'
  cases e1 : ag rho mu with
  | none => rw [e1] at e'; cases e'
  | some z =>
    obtain ⟨o1, m1⟩ := z
    rw [e1] at e'
    cases o1 with
    | ex c cs =>
      cases e'
      exact ⟨am, e0, rho, mu, F, s, _, _, e1, k⟩
    | ok ds =>
      refine ⟨am, e0, rho, mu, F, s, _, _, e1, fun vs H1 F1 q r => ?_⟩
      show spF G n fm (vs ++ []) H1 Q (E σ)
      rw [List.append_nil]
      exact own_then (ag := ag) (hE σ) (s.post q) (by rw [r.length]; exact hn rho mu ds m1 e1) r e' (Ko.pre s.sub s.mr q k)
end
end Mi
end
section
set_option Elab.async false
set_option linter.all false
set_option maxRecDepth 100000
set_option maxHeartbeats 4000000
namespace Mi
open PySem PySem.Spec PyProof.Rows L2
open Evl (Ex)
/-- nothing is raised -/
def WN : WX := fun _ _ _ _ => False
section
variable {X : Cx} {G : Cl} {W : WX} {pos : Pos} {a b c e : Expr} {f g h : EM} {st : Stmt} {sf sg : SM} {tf : BM} {am : Addr} {e0 : En} {H F H' F' H1 F1 : Hp} {rho : List Slot} {mu mu' m1 : Mu} {σ : L2.St} {p : Nat → Bool}
def wipeR (rho : List Slot) : List Nat → List Slot
  | [] => rho
  | v :: vs => (wipeR rho vs).set v .no
theorem Sta.no {i : Nat} (s : Sta G am e0 rho mu σ H F) : Sta G am e0 (rho.set i .no) mu (σ.set i none) H F where
  sub := s.sub
  len := by rw [List.length_set, List.length_set]; exact s.len
  va := fun j d h => by
    rcases set_get h with ⟨_, z, _⟩ | ⟨hj, h⟩
    · cases z
    · rw [List.getElem?_set_ne (Ne.symm hj)]
      exact s.va j d h
  ow := fun j w h => by
    rcases set_get h with ⟨_, z, _⟩ | ⟨hj, h⟩
    · cases z
    · rw [List.getElem?_set_ne (Ne.symm hj)]
      exact s.ow j w h
  dj := fun j k ds es a hjk h1 h2 h3 h4 => by
    rcases set_get h1 with ⟨_, z, _⟩ | ⟨hj, g1⟩
    · cases z
    · rcases set_get h2 with ⟨_, z, _⟩ | ⟨hk, g2⟩
      · cases z
      · rw [List.getElem?_set_ne (Ne.symm hj)] at h3
        rw [List.getElem?_set_ne (Ne.symm hk)] at h4
        exact s.dj j k ds es a hjk g1 g2 h3 h4
  oi := fun j c ds a h h' => by
    rcases set_get h with ⟨_, z, _⟩ | ⟨hj, h⟩
    · cases z
    · rw [List.getElem?_set_ne (Ne.symm hj)] at h'
      exact s.oi j c ds a h h'
  mr := s.mr
  keep := s.keep
  tb := s.tb
  fF := s.fF
  new := s.new
  mz := s.mz
theorem Sta.wipe (s : Sta G am e0 rho mu σ H F) : ∀ vs : List Nat, Sta G am e0 (wipeR rho vs) mu (L2.wipe σ vs) H F
  | [] => s
  | v :: vs => (Sta.wipe s vs).no
theorem wipe_get {σ : L2.St} {i : Nat} : ∀ {vs : List Nat}, (L2.wipe σ vs)[i]? = if i ∈ vs then (if i < σ.length then some none else none) else σ[i]?
  | [] => by simp [L2.wipe]
  | v :: vs => by
    unfold L2.wipe
    rw [List.getElem?_set]
    by_cases hv : v = i
    · subst hv
      rw [if_pos rfl, if_pos (List.mem_cons_self ..), L2.wipe_length]
    · rw [if_neg hv, wipe_get]
      have z : i ∈ v :: vs ↔ i ∈ vs := by
        rw [List.mem_cons]
        exact ⟨fun q => q.elim (fun z => absurd z.symm hv) id, .inr⟩
      by_cases hi : i ∈ vs
      · rw [if_pos hi, if_pos (z.mpr hi)]
      · rw [if_neg hi, if_neg (fun q => hi (z.mp q))]
theorem wipe_eq {σ σ2 : L2.St} {vs : List Nat} (hl : σ2.length = σ.length) (h : ∀ i : Nat, i ∉ vs → σ2[i]? = σ[i]?) : L2.wipe σ2 vs = L2.wipe σ vs := by
  apply List.ext_getElem?
  intro i
  rw [wipe_get, wipe_get]
  by_cases hi : i ∈ vs
  · rw [if_pos hi, if_pos hi, hl]
  · rw [if_neg hi, if_neg hi, h i hi]
theorem wipe_wipe {σ : L2.St} {vs : List Nat} : L2.wipe (L2.wipe σ vs) vs = L2.wipe σ vs := wipe_eq (L2.wipe_length ..) fun i hi => by rw [wipe_get, if_neg hi]
/-- a comprehension's target -/
def TgLc (G : Cl) (g : TG) (put : D → List Slot → Option (List Slot)) (vs : List Nat) : Prop := ∀ (am : Addr) (e0 : En) (rho rho' : List Slot) (mu : Mu) (σ : L2.St) (H F : Hp) (v : V) (d : D) (Q : L2.St → Hp → Prop),
  Sta G am e0 rho mu σ H F → Rp G F am v d → put d rho = some rho' → (∀ σ', Sta G am e0 rho' mu σ' H F → L2.wipe σ' vs = L2.wipe σ vs → Q σ' H) → g v σ H Q
theorem tl_name {i : Nat} {vs : List Nat} (hi : i ∈ vs) : TgLc G (gName i) (fun d rho => some (rho.set i (.va d))) vs := by
  intro am e0 rho rho' mu σ H F v d Q s r e k
  cases e
  refine k _ (s.set r) (wipe_eq (List.length_set ..) fun j hj => ?_)
  rw [List.getElem?_set_ne (fun z : i = j => hj (z ▸ hi))]
def putPair (i j : Nat) : D → List Slot → Option (List Slot)
  | .tup [x, y], rho => some ((rho.set i (.va x)).set j (.va y))
  | _, _ => none
theorem pair_ok {i j : Nat} {v : V} {d : D} {rho' : List Slot} {Q : L2.St → Hp → Prop} (hK : X.K = G.K) (s : Sta G am e0 rho mu σ H F) (r : Rp G F am v d) (e : putPair i j d rho = some rho') (k : ∀ x y, Sta G am e0 rho' mu ((σ.set i (some x)).set j (some y)) H F → Q ((σ.set i (some x)).set j (some y)) H) :
    gTup X.K 2 (gCons (gName i) (gCons (gName j) gNil)) v σ H Q := by
  unfold putPair at e
  split at e
  · rename_i x y rho0
    cases e
    cases r with
    | tup h1 r1 =>
      cases r1 with
      | cons q1 r2 =>
        cases r2 with
        | cons q2 r3 =>
          cases r3
          refine ⟨_, _, rfl, by rw [hK]; exact Evl.ex_t s.sub h1, rfl, _, _, rfl, _, _, rfl, rfl, ?_⟩
          exact k _ _ ((s.set q1).set q2)
  · cases e
theorem tg_pair {i j : Nat} (hK : X.K = G.K) : TgOk G (gTup X.K 2 (gCons (gName i) (gCons (gName j) gNil))) (putPair i j) := by
  intro am e0 rho rho' mu σ H F v d Q s r e k
  exact pair_ok hK s r e fun x y s' => k _ s'
theorem tl_pair {i j : Nat} {vs : List Nat} (hK : X.K = G.K) (hi : i ∈ vs) (hj : j ∈ vs) : TgLc G (gTup X.K 2 (gCons (gName i) (gCons (gName j) gNil))) (putPair i j) vs := by
  intro am e0 rho rho' mu σ H F v d Q s r e k
  refine pair_ok hK s r e fun x y s' => k _ s' (wipe_eq (by rw [List.length_set, List.length_set]) fun m hm => ?_)
  rw [List.getElem?_set_ne (fun z : j = m => hm (z ▸ hj)), List.getElem?_set_ne (fun z : i = m => hm (z ▸ hi))]

/-- the turns of a comprehension -/
def lcL (put : D → List Slot → Option (List Slot)) (t : BM) (f : EM) (rho : List Slot) : List D → List D → Mu → Option (List D × Mu)
  | [], acc, mu => some (acc, mu)
  | d :: ds, acc, mu => match put d rho with
    | none => none
    | some rho' => match t rho' mu with
      | some (.ok true, m) => (match f rho' m with
        | some (.ok v, m') => if acc.length < 100000 then lcL put t f rho ds (acc ++ [v.d]) m' else none
        | _ => none)
      | some (.ok false, m) => lcL put t f rho ds acc m
      | _ => none
theorem lcL_cons {put : D → List Slot → Option (List Slot)} {t : BM} {f : EM} {d : D} {ds acc out : List D} (h : lcL put t f rho (d :: ds) acc mu = some (out, mu')) :
    ∃ rho' b m, put d rho = some rho' ∧ t rho' mu = some (.ok b, m) ∧ ((b = true ∧ ∃ v m', f rho' m = some (.ok v, m') ∧ acc.length < 100000 ∧ lcL put t f rho ds (acc ++ [v.d]) m' = some (out, mu')) ∨ (b = false ∧ lcL put t f rho ds acc m = some (out, mu'))) := by
  unfold lcL at h
  cases hp : put d rho with
  | none => rw [hp] at h; cases h
  | some rho' =>
    rw [hp] at h
    refine ⟨rho', ?_⟩
    simp only at h
    cases ht : t rho' mu with
    | none => rw [ht] at h; cases h
    | some z =>
      obtain ⟨o, m⟩ := z
      rw [ht] at h
      cases o with
      | ex c cs => cases h
      | ok b =>
        refine ⟨b, m, rfl, rfl, ?_⟩
        cases b with
        | false => exact .inr ⟨rfl, h⟩
        | true =>
          refine .inl ⟨rfl, ?_⟩
          simp only at h
          cases hf : f rho' m with
          | none => rw [hf] at h; cases h
          | some z =>
            obtain ⟨o, m'⟩ := z
            rw [hf] at h
            cases o with
            | ex c cs => cases h
            | ok v =>
              have h2 : (if acc.length < 100000 then lcL put t f rho ds (acc ++ [v.d]) m' else none) = some (out, mu') := h
              by_cases hc : acc.length < 100000
              · rw [if_pos hc] at h2
                exact ⟨v, m', rfl, hc, h2⟩
              · rw [if_neg hc] at h2
                cases h2
/-- what holds between two turns: D is where the new list stands -/
structure Lc (G : Cl) (am : Addr) (mu : Mu) (H F : Hp) (put : D → List Slot → Option (List Slot)) (t : BM) (f : EM) (rho : List Slot) (Dl : Addr) (ds out : List D) (mu' : Mu) (H' : Hp) : Prop where
  ex : ∃ (F' : Hp) (m' : Mu) (acc : List V) (das : List D), Post G am mu H F m' H' F' ∧ H' Dl = some (.lst acc) ∧ F' Dl = none ∧ RpAll G F' am acc das ∧ lcL put t f rho ds das m' = some (out, mu')
theorem Post.chg {p : Addr} {o : HO} (q : Post G am mu H F mu' H' F') (n : H p = none) (nf : F' p = none) (hp : mu = none ∨ p ≠ am) {xs : List V} (hl : H' p = some (.lst xs)) : Post G am mu H F mu' (upd H' p o) F' where
  tb := q.tb.tr (gd_chg hl (fun _ z => by cases z) (fun _ z => by cases z) (fun _ z => by cases z))
  keep := fun b u hb e => by rw [upd_ne (ne_of_none e n)]; exact q.keep b u hb e
  fF := q.fF
  sub := fun b u e => by rw [upd_ne (fun z => by rw [z, nf] at e; cases e)]; exact q.sub b u e
  new := q.new
  mr := q.mr.mono (fun hm => by
    have m := q.mr
    cases mu' with
    | none => exact absurd rfl hm
    | some es => exact m.1) (Ex.refl F') fun xs hm h => by
      have na : am ≠ p := by
        rcases hp with z | z
        · exact absurd (q.mm.mp z) hm
        · exact Ne.symm z
      rw [upd_ne na]
      exact h
  mm := q.mm
theorem lc_turn {put : D → List Slot → Option (List Slot)} {gt : TG} {vs : List Nat} {Dl : Addr} {d : D} {ds out : List D} {x : V} {Pn : Hp → Prop} (hg : TgLc G gt put vs) (s : Sta G am e0 rho mu σ H F) (nD : H Dl = none) (hD : mu = none ∨ Dl ≠ am)
    (w : Lc G am mu H F put tf f (wipeR rho vs) Dl (d :: ds) out mu' H') (hx : ∀ F', Ex F F' → Rp G F' am x d) (k : ∀ H2, Lc G am mu H F put tf f (wipeR rho vs) Dl ds out mu' H2 → Pn H2) :
    gt x (L2.wipe σ vs) H' fun σ2 H2 => L2.wipe σ2 vs = L2.wipe σ vs ∧ rdT G WN tf σ2 H2 fun b H3 => if b = true then rd G WN f σ2 H3 fun y H4 => ∃ acc, H4 Dl = some (.lst acc) ∧ acc.length < sizeLine ∧ Pn (upd H4 Dl (.lst (acc ++ [y]))) else Pn H3 := by
  obtain ⟨F', m', acc, das, q, hd, nf, ra, e⟩ := w
  obtain ⟨rho', b, m2, e1, e2, e3⟩ := lcL_cons e
  have s' := (s.post q).wipe vs
  refine hg am e0 _ rho' m' _ H' F' x d _ s' (hx F' q.fF) e1 fun σ2 s2 hw => ⟨hw.trans wipe_wipe, ?_⟩
  have hD' : m' = none ∨ Dl ≠ am := hD.imp (fun z => q.mm.mp z) id
  have stay : ∀ {m3 : Mu} {H3 F3 : Hp}, Post G am m' H' F' m3 H3 F3 → H3 Dl = some (.lst acc) ∧ F3 Dl = none := fun {m3 H3 F3} q3 => by
    refine ⟨q3.kept hD' hd (fun _ z => by cases z), ?_⟩
    cases z : F3 Dl with
    | none => rfl
    | some o =>
      rcases q3.new Dl (by rw [z]; simp) with y | y
      · exact absurd nf y
      · rw [hd] at y; cases y
  refine ⟨am, e0, rho', m', F', s2, _, m2, e2, fun H3 F3 q3 => ?_⟩
  obtain ⟨h3, n3⟩ := stay q3
  rcases e3 with ⟨rfl, v, m4, e4, hc, e5⟩ | ⟨rfl, e5⟩
  · show rd G WN f σ2 H3 _
    refine ⟨am, e0, rho', m2, F3, s2.post q3, _, m4, e4, Kd.use fun y H4 F4 q4 r4 => ?_⟩
    obtain ⟨h4, n4⟩ := stay (q3.trans s'.sub q4)
    refine ⟨acc, h4, Evl.sz_lt (by rw [ra.length]; exact hc), k _ ⟨F4, m4, acc ++ [y], das ++ [v.d], ?_, upd_same, n4, ?_, e5⟩⟩
    · exact ((q.trans s.sub q3).trans s.sub q4).chg nD n4 hD h4
    · exact ((ra.mono q3.fF).mono q4.fF).append (.cons r4 .nil)
  · exact k H3 ⟨F3, m2, acc, das, q.trans s.sub q3, h3, n3, ra.mono q3.fF, e5⟩
theorem lc_start {put : D → List Slot → Option (List Slot)} {Dl : Addr} {ds out : List D} (s : Sta G am e0 rho mu σ H F) (n : H Dl = none) (e : lcL put tf f rho ds [] mu = some (out, mu')) : Lc G am mu H F put tf f rho Dl ds out mu' (upd H Dl (.lst [])) :=
  ⟨F, mu, [], [], Post.lay s.sub s.mr n, upd_same, free_F s.sub n, .nil, e⟩
theorem lc_end {put : D → List Slot → Option (List Slot)} {Dl : Addr} {out : List D} {Q : VK} (n : H Dl = none) (hD : mu = none ∨ Dl ≠ am) (w : Lc G am mu H F put tf f rho Dl [] out mu' H') (k : Kd G am mu H F mu' Q (.fr out)) : Q (.ref Dl) H' := by
  obtain ⟨F', m', acc, das, q, hd, nf, ra, e⟩ := w
  cases e
  exact k Dl acc H' F' q n hd nf hD ra
def bYes : BM := fun _ => M.pure true
theorem PTs.to {X : Cx} {e : List Expr} {t t' : TT} (h : PTs X e t) (k : ∀ σ H Q, t' σ H Q → t σ H Q) : PTs X e t' := ⟨fun pins s σ H Q I q => h.run pins s σ H Q I (k σ H Q q)⟩
theorem ts_nil : PTs X [] (rdT G W bYes) := PTs.to pts_nil fun σ H Q ⟨am, e0, rho, mu, F, s, o, mu', e, k⟩ => by
  cases e
  exact k H F (Post.refl s.sub s.mr)
/-- what is walked, and the comprehension over it -/
def eLc (m : D → Option (List D)) (fi : EM) (put : D → List Slot → Option (List Slot)) (vs : List Nat) (t : BM) (f : EM) : EM := fun rho => M.bind (fi rho) fun v => fun mu => match m v.d with
  | some ds => (match lcL put t f (wipeR rho vs) ds [] mu with
    | some (out, mu') => some (.ok (.fr out), mu')
    | none => none)
  | none => none
def eLcR (rg : List D → Option (Int × Nat)) (fi : AM) (put : D → List Slot → Option (List Slot)) (vs : List Nat) (t : BM) (f : EM) : EM := fun rho => M.bind (fi rho) fun v => fun mu => match rg v with
  | some (lo, n) => (match lcL put t f (wipeR rho vs) (upI lo n) [] mu with
    | some (out, mu') => some (.ok (.fr out), mu')
    | none => none)
  | none => none
theorem lc_out {o : Out Vl} {put : D → List Slot → Option (List Slot)} {ds : List D} (e : (match lcL put tf f rho ds [] mu with
    | some (out, mu') => some (Out.ok (Vl.fr out), mu')
    | none => none) = some (o, mu')) : ∃ out, o = .ok (.fr out) ∧ lcL put tf f rho ds [] mu = some (out, mu') := by
  cases h : lcL put tf f rho ds [] mu with
  | none => rw [h] at e; cases e
  | some z =>
    obtain ⟨out, m⟩ := z
    rw [h] at e
    cases e
    exact ⟨out, rfl, rfl⟩
theorem lcL_to {fi : EM} {gt : TG} {put : D → List Slot → Option (List Slot)} {vs : List Nat} (hK : X.K = G.K) (hg : TgLc G gt put vs) {σ : L2.St} {H : Hp} {Q : VK} (q : rd G W (eLc seqD fi put vs tf f) σ H Q) : tLc (iList X.K (rd G W fi)) gt (rdT G WN tf) (rd G WN f) vs σ H Q := by
  obtain ⟨am, e0, rho, mu, F, s, o, mu', e, k⟩ := q
  refine rd_then s e k.x fun vl m1 v H1 F1 e1 q s1 rv => ?_
  cases hd : seqD vl.d with
  | none => rw [hd] at e1; cases e1
  | some ds =>
    rw [hd] at e1
    obtain ⟨out, rfl, e2⟩ := lc_out e1
    obtain ⟨a, xs, rfl, hq, rx⟩ := seqD_at rv hd
    rw [hK]
    refine ⟨a, rfl, ⟨xs, Evl.ex_l s1.sub hq⟩, fun Dl nD => ?_⟩
    have hD := new_ne s1.mr nD
    refine lc_list (xs := xs) (fun i H' => Lc G am m1 H1 F1 put tf f (wipeR rho vs) Dl (ds.drop i) out mu' H') (lc_start (s1.wipe vs) nD e2) (fun i H' _ w => ?_) (fun i x H' hx w => ?_) fun H' w => ?_
    · obtain ⟨F', m', acc, das, q', _⟩ := w
      exact Evl.ex_l (q'.fF.trans q'.sub) hq
    · obtain ⟨d, hd', rd'⟩ := rx.getV hx
      rw [getD_drop hd'] at w
      exact lc_turn hg s1 nD hD w (fun F' e => rd'.mono e) fun H2 w2 => w2
    · rw [rx.length, List.drop_length] at w
      exact lc_end nD hD w (Kd.pre s.sub s.mr q k)
theorem d_lcL {fi : EM} {gt : TG} {put : D → List Slot → Option (List Slot)} {vs : List Nat} (hK : X.K = G.K) (h : PE X e (tLc (iList X.K (rd G W fi)) gt (rdT G WN tf) (rd G WN f) vs)) (hg : TgLc G gt put vs) : PE X e (rd G W (eLc seqD fi put vs tf f)) := PE.to h fun _ _ _ q => lcL_to hK hg q
theorem lcT_to {fi : EM} {gt : TG} {put : D → List Slot → Option (List Slot)} {vs : List Nat} (hK : X.K = G.K) (hg : TgLc G gt put vs) {σ : L2.St} {H : Hp} {Q : VK} (q : rd G W (eLc tupD fi put vs tf f) σ H Q) : tLc (iTup X.K (rd G W fi)) gt (rdT G WN tf) (rd G WN f) vs σ H Q := by
  obtain ⟨am, e0, rho, mu, F, s, o, mu', e, k⟩ := q
  refine rd_then s e k.x fun vl m1 v H1 F1 e1 q s1 rv => ?_
  cases hd : tupD vl.d with
  | none => rw [hd] at e1; cases e1
  | some ds =>
    rw [hd] at e1
    obtain ⟨out, rfl, e2⟩ := lc_out e1
    obtain ⟨a, xs, rfl, hq, rx⟩ := tupD_at rv hd
    rw [hK]
    refine ⟨a, rfl, ⟨xs, Evl.ex_t s1.sub hq⟩, fun Dl nD => ?_⟩
    have hD := new_ne s1.mr nD
    refine lc_tup (xs := xs) (fun i H' => Lc G am m1 H1 F1 put tf f (wipeR rho vs) Dl (ds.drop i) out mu' H') (lc_start (s1.wipe vs) nD e2) (fun i H' _ w => ?_) (fun i x H' hx w => ?_) fun H' w => ?_
    · obtain ⟨F', m', acc, das, q', _⟩ := w
      exact Evl.ex_t (q'.fF.trans q'.sub) hq
    · obtain ⟨d, hd', rd'⟩ := rx.getV hx
      rw [getD_drop hd'] at w
      exact lc_turn hg s1 nD hD w (fun F' e => rd'.mono e) fun H2 w2 => w2
    · rw [rx.length, List.drop_length] at w
      exact lc_end nD hD w (Kd.pre s.sub s.mr q k)
theorem d_lcT {fi : EM} {gt : TG} {put : D → List Slot → Option (List Slot)} {vs : List Nat} (hK : X.K = G.K) (h : PE X e (tLc (iTup X.K (rd G W fi)) gt (rdT G WN tf) (rd G WN f) vs)) (hg : TgLc G gt put vs) : PE X e (rd G W (eLc tupD fi put vs tf f)) := PE.to h fun _ _ _ q => lcT_to hK hg q
theorem lcr_go {gt : TG} {put : D → List Slot → Option (List Slot)} {vs : List Nat} {lo : Int} {n : Nat} {Dl : Addr} {out : List D} {Q : VK} (hg : TgLc G gt put vs) (s1 : Sta G am e0 rho m1 σ H1 F1) (nD : H1 Dl = none) (e2 : lcL put tf f (wipeR rho vs) (upI lo n) [] m1 = some (out, mu')) (k : Kd G am m1 H1 F1 mu' Q (.fr out)) :
    ∃ W : Nat → Nat → Hp → Prop, (∃ m, W 0 m (upd H1 Dl (.lst []))) ∧ ∀ i m H, W i m H →
      ((Itr lo n).stop i H ∧ Q (.ref Dl) H) ∨ ((Itr lo n).go i H ∧ ∃ Nx : Hp → Prop, (∀ H', Nx H' → ∃ m', m' < m ∧ W (i + 1) m' H') ∧ ∀ x H', (Itr lo n).yld i H x H' → gt x (L2.wipe σ vs) H' fun σ2 H2 => L2.wipe σ2 vs = L2.wipe σ vs ∧ rdT G WN tf σ2 H2 fun b H3 =>
        if b = true then rd G WN f σ2 H3 fun y H4 => ∃ acc, H4 Dl = some (.lst acc) ∧ acc.length < sizeLine ∧ Nx (upd H4 Dl (.lst (acc ++ [y]))) else Nx H3) := by
  have hD := new_ne s1.mr nD
  refine lc_range (fun i H' => Lc G am m1 H1 F1 put tf f (wipeR rho vs) Dl ((upI lo n).drop i) out mu' H') (lc_start (s1.wipe vs) nD e2) (fun i H' hi w => ?_) fun H' w => ?_
  · rw [upI_drop n i lo hi] at w
    exact lc_turn hg s1 nD hD w (fun F' e => .int _) fun H2 w2 => w2
  · have z : (upI lo n).drop n = [] := by
      rw [List.drop_eq_nil_iff, upI_len]
      exact Nat.le_refl n
    rw [z] at w
    exact lc_end nD hD w k
theorem lcR1_to {ag : AM} {gt : TG} {put : D → List Slot → Option (List Slot)} {vs : List Nat} (hg : TgLc G gt put vs) {σ : L2.St} {H : Hp} {Q : VK} (q : rd G W (eLcR rng1 ag put vs tf f) σ H Q) : tLc (iRng1 (rdA G W ag)) gt (rdT G WN tf) (rd G WN f) vs σ H Q := by
  obtain ⟨am, e0, rho, mu, F, s, o, mu', e, k⟩ := q
  refine rdA_then s e k.x fun ds m1 xs H1 F1 e1 q s1 rv => ?_
  cases hd : rng1 ds with
  | none => rw [hd] at e1; cases e1
  | some z =>
    obtain ⟨lo, n⟩ := z
    rw [hd] at e1
    obtain ⟨out, rfl, e2⟩ := lc_out e1
    obtain ⟨j, ev, h1, h2, rfl, rfl⟩ := rng1_ints rv hd
    exact ⟨j, ev, h1, h2, fun Dl nD => lcr_go hg s1 nD e2 (Kd.pre s.sub s.mr q k)⟩
theorem d_lcR1 {ag : AM} {gt : TG} {put : D → List Slot → Option (List Slot)} {vs : List Nat} (h : PE X e (tLc (iRng1 (rdA G W ag)) gt (rdT G WN tf) (rd G WN f) vs)) (hg : TgLc G gt put vs) : PE X e (rd G W (eLcR rng1 ag put vs tf f)) := PE.to h fun _ _ _ q => lcR1_to hg q
theorem lcR2_to {ag : AM} {gt : TG} {put : D → List Slot → Option (List Slot)} {vs : List Nat} (hg : TgLc G gt put vs) {σ : L2.St} {H : Hp} {Q : VK} (q : rd G W (eLcR rng2 ag put vs tf f) σ H Q) : tLc (iRng2 (rdA G W ag)) gt (rdT G WN tf) (rd G WN f) vs σ H Q := by
  obtain ⟨am, e0, rho, mu, F, s, o, mu', e, k⟩ := q
  refine rdA_then s e k.x fun ds m1 xs H1 F1 e1 q s1 rv => ?_
  cases hd : rng2 ds with
  | none => rw [hd] at e1; cases e1
  | some z =>
    obtain ⟨lo, n⟩ := z
    rw [hd] at e1
    obtain ⟨out, rfl, e2⟩ := lc_out e1
    obtain ⟨i, j, ev, h1, hlo, hn⟩ := rng2_ints rv hd
    rw [hlo, hn] at e2
    exact ⟨i, j, ev, h1, fun Dl nD => lcr_go hg s1 nD e2 (Kd.pre s.sub s.mr q k)⟩
theorem d_lcR2 {ag : AM} {gt : TG} {put : D → List Slot → Option (List Slot)} {vs : List Nat} (h : PE X e (tLc (iRng2 (rdA G W ag)) gt (rdT G WN tf) (rd G WN f) vs)) (hg : TgLc G gt put vs) : PE X e (rd G W (eLcR rng2 ag put vs tf f)) := PE.to h fun _ _ _ q => lcR2_to hg q
end
end Mi
end
section
set_option Elab.async false
set_option linter.all false
set_option maxRecDepth 100000
set_option maxHeartbeats 4000000
namespace Mi
open PySem PySem.Spec PyProof.Rows L2
open Evl (Ex)
section
variable {X : Cx} {G : Cl} {W : WX} {pos : Pos} {a b c e : Expr} {f g h : EM} {am : Addr} {H F : Hp} {mu : Mu} {σ : L2.St}
/-- one argument -/
def m1 (m : D → Option Vl) : List D → Option Vl
  | [d] => m d
  | _ => none
def m2 (m : D → D → Option Vl) : List D → Option Vl
  | [d, d'] => m d d'
  | _ => none
theorem c1 {r : List V → Hp → VK → Prop} {m : D → Option Vl} (h : ∀ (am : Addr) (mu : Mu) (H F : Hp) (x : V) (d : D) (vl : Vl) (Q : VK), Ex F H → MR G H F am mu → Rp G F am x d → m d = some vl → Kd G am mu H F mu Q vl → r [x] H Q) : CallOk G r (m1 m) := by
  intro am mu H F vs ds vl Q s mr rs e k
  match ds, e, rs with
  | [d], e, rs =>
    cases rs with
    | cons r1 r2 =>
      cases r2
      exact h am mu H F _ d vl Q s mr r1 e k
theorem c2 {r : List V → Hp → VK → Prop} {m : D → D → Option Vl} (h : ∀ (am : Addr) (mu : Mu) (H F : Hp) (x y : V) (d d' : D) (vl : Vl) (Q : VK), Ex F H → MR G H F am mu → Rp G F am x d → Rp G F am y d' → m d d' = some vl → Kd G am mu H F mu Q vl → r [x, y] H Q) : CallOk G r (m2 m) := by
  intro am mu H F vs ds vl Q s mr rs e k
  match ds, e, rs with
  | [d, d'], e, rs =>
    cases rs with
    | cons r1 r2 =>
      cases r2 with
      | cons r3 r4 =>
        cases r4
        exact h am mu H F _ _ d d' vl Q s mr r1 r3 e k
/-! ### len -/
def lenD : D → Option Vl
  | .lst ds => some (.fz (.int ds.length))
  | .tup ds => some (.fz (.int ds.length))
  | .scr ns => some (.fz (.int ns.length))
  | .str x => if x.length ≤ 100000 then some (.fz (.int x.length)) else none
  | _ => none
abbrev rLenA (K : PySem.W.Frag) : List V → Hp → VK → Prop := fun xs H Q => (∃ p ys, xs = [.ref p] ∧ (SqL K H p ys ∨ SqT K H p ys) ∧ Q (.int ys.length) H) ∨ ∃ z, xs = [.str z] ∧ z.length ≤ sizeLine ∧ Q (.int z.length) H
theorem call_lenA : CallR X (.builtin "len") (rLenA X.K) := call_len_seq.or call_len_str
theorem ok_len : CallOk G (rLenA G.K) (m1 lenD) := c1 fun am mu H F x d vl Q s mr r e k => by
  cases r with
  | lst h1 r1 =>
    cases e
    refine .inl ⟨_, _, rfl, .inl (Evl.sq_of (s _ _ h1)), ?_⟩
    rw [r1.length]
    exact Kd.fz s mr (.int _) k
  | tup h1 r1 =>
    cases e
    refine .inl ⟨_, _, rfl, .inr (Evl.ex_t s h1), ?_⟩
    rw [r1.length]
    exact Kd.fz s mr (.int _) k
  | scr h1 =>
    cases e
    refine .inl ⟨_, _, rfl, .inl (Evl.ex_l s h1), ?_⟩
    rw [List.length_map]
    exact Kd.fz s mr (.int _) k
  | str x =>
    obtain ⟨c, rfl⟩ := ite_some e
    exact .inr ⟨x, rfl, szL c, Kd.fz s mr (.int _) k⟩
  | _ => cases e
/-! ### int, bool, str, abs, max, min -/
def intM : D → Option Vl
  | .int i => some (.fz (.int i))
  | .bl b => some (.fz (.int (if b then 1 else 0)))
  | _ => none
abbrev rInt : List V → Hp → VK → Prop := fun xs H Q => (∃ i, xs = [.int i] ∧ Q (.int i) H) ∨ ∃ k, xs = [.bl k] ∧ Q (.int (if k then 1 else 0)) H
theorem ok_int : CallOk G rInt (m1 intM) := c1 fun am mu H F x d vl Q s mr r e k => by
  cases r with
  | int i =>
    cases e
    exact .inl ⟨i, rfl, Kd.fz s mr (.int _) k⟩
  | bl b =>
    cases e
    exact .inr ⟨b, rfl, Kd.fz s mr (.int _) k⟩
  | _ => cases e
def boolM : D → Option Vl
  | .int i => some (.fz (.bl (i != 0)))
  | .bl b => some (.fz (.bl b))
  | _ => none
theorem ok_bool : CallOk G (fun xs H Q => (∃ i, xs = [.int i] ∧ Q (.bl (i != 0)) H) ∨ ∃ k, xs = [.bl k] ∧ Q (.bl k) H) (m1 boolM) := c1 fun am mu H F x d vl Q s mr r e k => by
  cases r with
  | int i =>
    cases e
    exact .inl ⟨i, rfl, Kd.fz s mr (.bl _) k⟩
  | bl b =>
    cases e
    exact .inr ⟨b, rfl, Kd.fz s mr (.bl _) k⟩
  | _ => cases e
def strM : D → Option Vl
  | .int i => if i.natAbs.log2 < 1920 then some (.fz (.str (toString i))) else none
  | _ => none
theorem ok_str : CallOk G (fun xs H Q => ∃ i, xs = [.int i] ∧ i.natAbs.log2 < 1920 ∧ Q (.str (toString i)) H) (m1 strM) := c1 fun am mu H F x d vl Q s mr r e k => by
  cases r with
  | int i =>
    obtain ⟨c, rfl⟩ := ite_some e
    exact ⟨i, rfl, c, Kd.fz s mr (.str _) k⟩
  | _ => cases e
def absM : D → Option Vl
  | .int i => some (.fz (.int (if i < 0 then -i else i)))
  | _ => none
theorem ok_abs : CallOk G (fun xs H Q => ∃ i, xs = [.int i] ∧ Q (.int (if i < 0 then -i else i)) H) (m1 absM) := c1 fun am mu H F x d vl Q s mr r e k => by
  cases r with
  | int i =>
    cases e
    exact ⟨i, rfl, Kd.fz s mr (.int _) k⟩
  | _ => cases e
def maxM : D → D → Option Vl
  | .int i, .int j => some (.fz (.int (if j > i then j else i)))
  | _, _ => none
def minM : D → D → Option Vl
  | .int i, .int j => some (.fz (.int (if j < i then j else i)))
  | _, _ => none
theorem ok_max2 : CallOk G (fun xs H Q => ∃ i j, xs = [.int i, .int j] ∧ Q (.int (if j > i then j else i)) H) (m2 maxM) := c2 fun am mu H F x y d d' vl Q s mr r r' e k => by
  cases r with
  | int i =>
    cases r' with
    | int j =>
      cases e
      exact ⟨i, j, rfl, Kd.fz s mr (.int _) k⟩
    | _ => cases e
  | _ => cases r' <;> cases e
theorem ok_min2 : CallOk G (fun xs H Q => ∃ i j, xs = [.int i, .int j] ∧ Q (.int (if j < i then j else i)) H) (m2 minM) := c2 fun am mu H F x y d d' vl Q s mr r r' e k => by
  cases r with
  | int i =>
    cases r' with
    | int j =>
      cases e
      exact ⟨i, j, rfl, Kd.fz s mr (.int _) k⟩
    | _ => cases e
  | _ => cases r' <;> cases e
/-! ### lists of ints, of truths -/
def intsD : List D → Option (List Int)
  | [] => some []
  | .int i :: ds => (intsD ds).map (i :: ·)
  | _ :: _ => none
theorem intsD_some : ∀ {ds : List D} {ns : List Int}, intsD ds = some ns → ds = ns.map D.int
  | [], ns, h => by
    cases h
    rfl
  | d :: ds, ns, h => by
    cases d with
    | int i =>
      obtain ⟨ms, h1, rfl⟩ := map_some (show (intsD ds).map (i :: ·) = some ns from h)
      rw [intsD_some h1]
      rfl
    | _ => cases h
theorem intsD_map (ns : List Int) : intsD (ns.map D.int) = some ns := by
  induction ns with
  | nil => rfl
  | cons n ns ih =>
    show (intsD (ns.map D.int)).map (n :: ·) = _
    rw [ih]
    rfl
def listI : D → Option (List Int)
  | .lst ds => intsD ds
  | .scr ns => some ns
  | _ => none
theorem listI_at {x : V} {d : D} {ns : List Int} (s : Ex F H) (r : Rp G F am x d) (h : listI d = some ns) : ∃ p, x = .ref p ∧ SqL G.K H p (ns.map V.int) := by
  cases r with
  | lst h1 r1 =>
    have e := intsD_some (show intsD _ = some ns from h)
    subst e
    rw [r1.ints] at h1
    exact ⟨_, rfl, Evl.sq_of (s _ _ h1)⟩
  | scr h1 =>
    cases h
    exact ⟨_, rfl, Evl.ex_l s h1⟩
  | _ => cases h
def bls : List D → Option (List Bool)
  | [] => some []
  | .bl i :: ds => (bls ds).map (i :: ·)
  | _ :: _ => none
theorem bls_some : ∀ {ds : List D} {ns : List Bool}, bls ds = some ns → ds = ns.map D.bl
  | [], ns, h => by
    cases h
    rfl
  | d :: ds, ns, h => by
    cases d with
    | bl i =>
      obtain ⟨ms, h1, rfl⟩ := map_some (show (bls ds).map (i :: ·) = some ns from h)
      rw [bls_some h1]
      rfl
    | _ => cases h
def listB : D → Option (List Bool)
  | .lst ds => bls ds
  | _ => none
theorem listB_at {x : V} {d : D} {ns : List Bool} (s : Ex F H) (r : Rp G F am x d) (h : listB d = some ns) : ∃ p, x = .ref p ∧ SqL G.K H p (ns.map V.bl) := by
  cases r with
  | lst h1 r1 =>
    have e := bls_some (show bls _ = some ns from h)
    subst e
    rw [r1.bls] at h1
    exact ⟨_, rfl, Evl.sq_of (s _ _ h1)⟩
  | _ => cases h
def sumM (d : D) : Option Vl := (listI d).map fun ns => .fz (.int ns.sum)
theorem ok_sum : CallOk G (rSum G.K) (m1 sumM) := c1 fun am mu H F x d vl Q s mr r e k => by
  obtain ⟨ns, h1, rfl⟩ := map_some e
  obtain ⟨p, rfl, h2⟩ := listI_at s r h1
  exact ⟨p, ns, rfl, h2, Kd.fz s mr (.int _) k⟩
def allM (d : D) : Option Vl := (listB d).map fun ns => .fz (.bl (ns.all id))
def anyM (d : D) : Option Vl := (listB d).map fun ns => .fz (.bl (ns.any id))
theorem ok_all : CallOk G (rAll G.K) (m1 allM) := c1 fun am mu H F x d vl Q s mr r e k => by
  obtain ⟨ns, h1, rfl⟩ := map_some e
  obtain ⟨p, rfl, h2⟩ := listB_at s r h1
  exact ⟨p, ns, rfl, h2, Kd.fz s mr (.bl _) k⟩
theorem ok_any : CallOk G (rAny G.K) (m1 anyM) := c1 fun am mu H F x d vl Q s mr r e k => by
  obtain ⟨ns, h1, rfl⟩ := map_some e
  obtain ⟨p, rfl, h2⟩ := listB_at s r h1
  exact ⟨p, ns, rfl, h2, Kd.fz s mr (.bl _) k⟩
/-- the greatest, the least of a list of ints -/
def maxI : Int → List Int → Int
  | m, [] => m
  | m, n :: ns => maxI (if n > m then n else m) ns
def minI : Int → List Int → Int
  | m, [] => m
  | m, n :: ns => minI (if n < m then n else m) ns
theorem maxI_ge : ∀ (ns : List Int) (m : Int), m ≤ maxI m ns ∧ (∀ n ∈ ns, n ≤ maxI m ns) ∧ (maxI m ns = m ∨ maxI m ns ∈ ns)
  | [], m => ⟨Int.le_refl m, fun _ h => (nomatch h), Or.inl rfl⟩
  | n :: ns, m => by
    obtain ⟨h1, h2, h3⟩ := maxI_ge ns (if n > m then n else m)
    show m ≤ maxI (if n > m then n else m) ns ∧ (∀ x ∈ n :: ns, x ≤ maxI (if n > m then n else m) ns) ∧ (maxI (if n > m then n else m) ns = m ∨ maxI (if n > m then n else m) ns ∈ n :: ns)
    by_cases hc : n > m
    · rw [if_pos hc] at h1 h2 h3 ⊢
      refine ⟨by omega, fun x hx => ?_, .inr ?_⟩
      · rcases List.mem_cons.mp hx with rfl | hx
        · exact h1
        · exact h2 x hx
      · rcases h3 with h | h
        · rw [h]
          exact List.mem_cons_self ..
        · exact List.mem_cons_of_mem _ h
    · rw [if_neg hc] at h1 h2 h3 ⊢
      refine ⟨h1, fun x hx => ?_, h3.imp id (List.mem_cons_of_mem _)⟩
      rcases List.mem_cons.mp hx with rfl | hx
      · omega
      · exact h2 x hx
theorem minI_le : ∀ (ns : List Int) (m : Int), minI m ns ≤ m ∧ (∀ n ∈ ns, minI m ns ≤ n) ∧ (minI m ns = m ∨ minI m ns ∈ ns)
  | [], m => ⟨Int.le_refl m, fun _ h => (nomatch h), Or.inl rfl⟩
  | n :: ns, m => by
    obtain ⟨h1, h2, h3⟩ := minI_le ns (if n < m then n else m)
    show minI (if n < m then n else m) ns ≤ m ∧ (∀ x ∈ n :: ns, minI (if n < m then n else m) ns ≤ x) ∧ (minI (if n < m then n else m) ns = m ∨ minI (if n < m then n else m) ns ∈ n :: ns)
    by_cases hc : n < m
    · rw [if_pos hc] at h1 h2 h3 ⊢
      refine ⟨by omega, fun x hx => ?_, .inr ?_⟩
      · rcases List.mem_cons.mp hx with rfl | hx
        · exact h1
        · exact h2 x hx
      · rcases h3 with h | h
        · rw [h]
          exact List.mem_cons_self ..
        · exact List.mem_cons_of_mem _ h
    · rw [if_neg hc] at h1 h2 h3 ⊢
      refine ⟨h1, fun x hx => ?_, h3.imp id (List.mem_cons_of_mem _)⟩
      rcases List.mem_cons.mp hx with rfl | hx
      · omega
      · exact h2 x hx
def maxL (d : D) : Option Vl := match listI d with
  | some (n :: ns) => some (.fz (.int (maxI n ns)))
  | _ => none
def minL (d : D) : Option Vl := match listI d with
  | some (n :: ns) => some (.fz (.int (minI n ns)))
  | _ => none
theorem ok_maxL : CallOk G (rMax G.K) (m1 maxL) := c1 fun am mu H F x d vl Q s mr r e k => by
  unfold maxL at e
  split at e
  · rename_i n ns h1
    cases e
    obtain ⟨p, rfl, h2⟩ := listI_at s r h1
    refine ⟨p, n :: ns, rfl, h2, Nat.succ_pos _, fun m hm hle => ?_⟩
    obtain ⟨g1, g2, g3⟩ := maxI_ge ns n
    have z : m = maxI n ns := by
      have a1 : maxI n ns ≤ m := hle _ (by
        rcases g3 with h | h
        · rw [h]
          exact List.mem_cons_self ..
        · exact List.mem_cons_of_mem _ h)
      rcases List.mem_cons.mp hm with rfl | hm
      · omega
      · have := g2 m hm
        omega
    rw [z]
    exact Kd.fz s mr (.int _) k
  · cases e
theorem ok_minL : CallOk G (rMin G.K) (m1 minL) := c1 fun am mu H F x d vl Q s mr r e k => by
  unfold minL at e
  split at e
  · rename_i n ns h1
    cases e
    obtain ⟨p, rfl, h2⟩ := listI_at s r h1
    refine ⟨p, n :: ns, rfl, h2, Nat.succ_pos _, fun m hm hle => ?_⟩
    obtain ⟨g1, g2, g3⟩ := minI_le ns n
    have z : m = minI n ns := by
      have a1 : m ≤ minI n ns := hle _ (by
        rcases g3 with h | h
        · rw [h]
          exact List.mem_cons_self ..
        · exact List.mem_cons_of_mem _ h)
      rcases List.mem_cons.mp hm with rfl | hm
      · omega
      · have := g2 m hm
        omega
    rw [z]
    exact Kd.fz s mr (.int _) k
  · cases e
/-! ### list(..), tuple(..), sorted(..) -/
def listM : D → Option Vl
  | .lst ds => some (.fr ds)
  | .tup ds => some (.fr ds)
  | .scr ns => some (.fr (ns.map .int))
  | _ => none
theorem ok_list : CallOk G (fun xs H Q => ∃ p ys, xs = [.ref p] ∧ (SqL G.K H p ys ∨ SqT G.K H p ys) ∧ ∀ l, H l = none → Q (.ref l) (upd H l (.lst ys))) (m1 listM) := c1 fun am mu H F x d vl Q s mr r e k => by
  cases r with
  | lst h1 r1 =>
    cases e
    exact ⟨_, _, rfl, .inl (Evl.sq_of (s _ _ h1)), fun l n => Kd.lst s mr r1 n k⟩
  | tup h1 r1 =>
    cases e
    exact ⟨_, _, rfl, .inr (Evl.ex_t s h1), fun l n => Kd.lst s mr r1 n k⟩
  | scr h1 =>
    cases e
    exact ⟨_, _, rfl, .inl (Evl.ex_l s h1), fun l n => Kd.lst s mr (RpAll.of_ints _) n k⟩
  | _ => cases e
def tupM : D → Option Vl
  | .lst ds => some (.fz (.tup ds))
  | .tup ds => some (.fz (.tup ds))
  | .scr ns => some (.fz (.tup (ns.map .int)))
  | _ => none
theorem ok_tup : CallOk G (fun xs H Q => ∃ p ys, xs = [.ref p] ∧ ((SqL G.K H p ys ∧ ∀ l, H l = none → Q (.ref l) (upd H l (.tup ys))) ∨ (SqT G.K H p ys ∧ Q (.ref p) H))) (m1 tupM) := c1 fun am mu H F x d vl Q s mr r e k => by
  cases r with
  | lst h1 r1 =>
    cases e
    exact ⟨_, _, rfl, .inl ⟨Evl.sq_of (s _ _ h1), fun l n => Kd.tup s mr r1 n k⟩⟩
  | tup h1 r1 =>
    cases e
    exact ⟨_, _, rfl, .inr ⟨Evl.ex_t s h1, Kd.fz s mr (.tup h1 r1) k⟩⟩
  | scr h1 =>
    cases e
    exact ⟨_, _, rfl, .inl ⟨Evl.ex_l s h1, fun l n => Kd.tup s mr (RpAll.of_ints _) n k⟩⟩
  | _ => cases e
/-- insertion sort of ints: what sorted gives -/
def insI (n : Int) : List Int → List Int
  | [] => [n]
  | m :: ms => if n ≤ m then n :: m :: ms else m :: insI n ms
def sortI : List Int → List Int
  | [] => []
  | n :: ns => insI n (sortI ns)
theorem insI_perm (n : Int) : ∀ ms : List Int, (insI n ms).Perm (n :: ms)
  | [] => List.Perm.refl _
  | m :: ms => by
    unfold insI
    split
    · exact List.Perm.refl _
    · exact ((insI_perm n ms).cons m).trans (List.Perm.swap n m ms)
theorem sortI_perm : ∀ ns : List Int, (sortI ns).Perm ns
  | [] => List.Perm.refl _
  | n :: ns => (insI_perm n (sortI ns)).trans ((sortI_perm ns).cons n)
theorem insI_sorted (n : Int) : ∀ ms : List Int, ms.Pairwise (· ≤ ·) → (insI n ms).Pairwise (· ≤ ·)
  | [], _ => List.pairwise_singleton _ n
  | m :: ms, h => by
    unfold insI
    obtain ⟨h1, h2⟩ := List.pairwise_cons.mp h
    split
    · rename_i hc
      refine List.pairwise_cons.mpr ⟨fun x hx => ?_, h⟩
      rcases List.mem_cons.mp hx with rfl | hx
      · exact hc
      · exact Int.le_trans hc (h1 x hx)
    · rename_i hc
      refine List.pairwise_cons.mpr ⟨fun x hx => ?_, insI_sorted n ms h2⟩
      rcases List.mem_cons.mp ((insI_perm n ms).mem_iff.mp hx) with rfl | hx
      · omega
      · exact h1 x hx
theorem sortI_sorted : ∀ ns : List Int, (sortI ns).Pairwise (· ≤ ·)
  | [] => List.Pairwise.nil
  | n :: ns => insI_sorted n _ (sortI_sorted ns)
theorem sort_uniq : ∀ {xs ys : List Int}, xs.Perm ys → xs.Pairwise (· ≤ ·) → ys.Pairwise (· ≤ ·) → xs = ys
  | [], ys, p, _, _ => by
    have := p.length_eq
    cases ys with
    | nil => rfl
    | cons y ys => cases this
  | x :: xs, [], p, _, _ => by
    have := p.length_eq
    cases this
  | x :: xs, y :: ys, p, h, k => by
    obtain ⟨h1, h2⟩ := List.pairwise_cons.mp h
    obtain ⟨k1, k2⟩ := List.pairwise_cons.mp k
    have e : x = y := by
      have a1 : x ∈ y :: ys := p.mem_iff.mp (List.mem_cons_self ..)
      have a2 : y ∈ x :: xs := p.mem_iff.mpr (List.mem_cons_self ..)
      rcases List.mem_cons.mp a1 with z | z
      · exact z
      · rcases List.mem_cons.mp a2 with w | w
        · exact w.symm
        · have b1 := k1 x z
          have b2 := h1 y w
          omega
    subst e
    rw [sort_uniq (List.Perm.cons_inv p) h2 k2]
def sortM (d : D) : Option Vl := (listI d).map fun ns => .fr ((sortI ns).map .int)
theorem ok_sorted : CallOk G (rSortedI G.K) (m1 sortM) := c1 fun am mu H F x d vl Q s mr r e k => by
  obtain ⟨ns, h1, rfl⟩ := map_some e
  obtain ⟨p, rfl, h2⟩ := listI_at s r h1
  refine ⟨p, ns, rfl, h2, fun ns' q pm pw n => ?_⟩
  rw [sort_uniq (pm.trans (sortI_perm ns).symm) pw (sortI_sorted ns)]
  exact Kd.lst s mr (RpAll.of_ints _) n k
/-! ### == , !=, is None, in -/
def sV : D → Option V
  | .non => some .non
  | .bl b => some (.bl b)
  | .int i => some (.int i)
  | .str x => some (.str x)
  | _ => none
theorem sV_at {x v : V} {d : D} (r : Rp G F am x d) (h : sV d = some v) : x = v := by
  cases r <;> cases h <;> rfl
mutual
def toPy : D → Option PyData
  | .non => some .none
  | .bl b => some (.bool b)
  | .int i => some (.int i)
  | .str x => some (.str x)
  | .lst ds => (toPys ds).map .list
  | .tup ds => (toPys ds).map .tuple
  | .scr ns => some (.list (ns.map .int))
  | _ => none
def toPys : List D → Option (List PyData)
  | [] => some []
  | d :: ds => match toPy d, toPys ds with
    | some p, some ps => some (p :: ps)
    | _, _ => none
end
theorem toPys_cons {d : D} {ds : List D} {qs : List PyData} (h : toPys (d :: ds) = some qs) : ∃ p ps, toPy d = some p ∧ toPys ds = some ps ∧ qs = p :: ps := by
  unfold toPys at h
  cases h1 : toPy d with
  | none => rw [h1] at h; cases h
  | some p =>
    cases h2 : toPys ds with
    | none => rw [h1, h2] at h; cases h
    | some ps =>
      rw [h1, h2] at h
      cases h
      exact ⟨p, ps, rfl, rfl, rfl⟩
theorem dp_ints {K : PySem.W.Frag} {H : Hp} : ∀ ns : List Int, DpAll K H (ns.map V.int) (ns.map PyData.int)
  | [] => .nil
  | n :: ns => .cons (.int n) (dp_ints ns)
mutual
theorem toPy_at (s : Ex F H) : ∀ {v : V} {d : D} {q : PyData}, Rp G F am v d → toPy d = some q → Dp G.K H v q
  | _, _, _, .non, h => by cases h; exact .non
  | _, _, _, .bl b, h => by cases h; exact .bl b
  | _, _, _, .int i, h => by cases h; exact .int i
  | _, _, _, .str x, h => by cases h; exact .str x
  | _, _, _, .lst h1 r, h => by
    obtain ⟨qs, h2, rfl⟩ := map_some (show (toPys _).map PyData.list = some _ from h)
    exact .lst (Evl.sq_of (s _ _ h1)) (toPys_at s r h2)
  | _, _, _, .tup h1 r, h => by
    obtain ⟨qs, h2, rfl⟩ := map_some (show (toPys _).map PyData.tuple = some _ from h)
    exact .tup (Evl.ex_t s h1) (toPys_at s r h2)
  | _, _, _, .scr h1, h => by
    cases h
    exact .lst (Evl.ex_l s h1) (dp_ints _)
  | _, _, _, .ins _ _ _, h => by cases h
  | _, _, _, .mug, h => by cases h
  | _, _, _, .ty _, h => by cases h
  | _, _, _, .cls _, h => by cases h
theorem toPys_at (s : Ex F H) : ∀ {vs : List V} {ds : List D} {qs : List PyData}, RpAll G F am vs ds → toPys ds = some qs → DpAll G.K H vs qs
  | _, _, _, .nil, h => by
    cases h
    exact .nil
  | _, _, _, .cons r rs, h => by
    obtain ⟨p, ps, h1, h2, rfl⟩ := toPys_cons h
    exact .cons (toPy_at s r h1) (toPys_at s rs h2)
end
def two {α β γ : Type} (o : Option α) (o' : Option β) (k : α → β → Option γ) : Option γ := match o with
  | some v => (match o' with
    | some w => k v w
    | none => none)
  | none => none
theorem two_some {α β γ : Type} {o : Option α} {o' : Option β} {k : α → β → Option γ} {z : γ} (h : two o o' k = some z) : ∃ v w, o = some v ∧ o' = some w ∧ k v w = some z := by
  unfold two at h
  cases o with
  | none => cases h
  | some v =>
    cases o' with
    | none => cases h
    | some w => exact ⟨v, w, rfl, rfl, h⟩
def eqSc (neg : Bool) (x y : D) : Option Vl := two (sV x) (sV y) fun v w => if scal v w = true then some (.fz (.bl (if neg then !decide (v = w) else decide (v = w)))) else none
def eqPy (neg : Bool) (x y : D) : Option Vl := two (toPy x) (toPy y) fun v w => if (SeqAt.shaped v && SeqAt.shaped w) = true then some (.fz (.bl (if neg then !PyData.eqv v w else PyData.eqv v w))) else none
theorem ok_eqSc : R2Ok G rEq (eqSc false) := by
  intro am mu H F x y dx dy vl Q s mr tt rx ry h k
  obtain ⟨v, w, h1, h2, h3⟩ := two_some h
  obtain ⟨c, rfl⟩ := ite_some h3
  rw [sV_at rx h1, sV_at ry h2]
  exact ⟨c, Kd.fz s mr (.bl _) k⟩
theorem ok_neSc : R2Ok G rNe (eqSc true) := by
  intro am mu H F x y dx dy vl Q s mr tt rx ry h k
  obtain ⟨v, w, h1, h2, h3⟩ := two_some h
  obtain ⟨c, rfl⟩ := ite_some h3
  rw [sV_at rx h1, sV_at ry h2]
  exact ⟨c, Kd.fz s mr (.bl _) k⟩
theorem ok_eqPy : R2Ok G (rEqD G.K) (eqPy false) := by
  intro am mu H F x y dx dy vl Q s mr tt rx ry h k
  obtain ⟨v, w, h1, h2, h3⟩ := two_some h
  obtain ⟨c, rfl⟩ := ite_some h3
  rw [Bool.and_eq_true] at c
  exact ⟨v, w, toPy_at s rx h1, toPy_at s ry h2, c.1, c.2, Kd.fz s mr (.bl _) k⟩
theorem ok_nePy : R2Ok G (rNeD G.K) (eqPy true) := by
  intro am mu H F x y dx dy vl Q s mr tt rx ry h k
  obtain ⟨v, w, h1, h2, h3⟩ := two_some h
  obtain ⟨c, rfl⟩ := ite_some h3
  rw [Bool.and_eq_true] at c
  exact ⟨v, w, toPy_at s rx h1, toPy_at s ry h2, c.1, c.2, Kd.fz s mr (.bl _) k⟩
/-- == of scalars, of data -/
def orM (m m' : D → D → Option Vl) : D → D → Option Vl := fun x y => match m x y with
  | some z => some z
  | none => m' x y
theorem ok_or {r r' : R2} {m m' : D → D → Option Vl} (h : R2Ok G r m) (h' : R2Ok G r' m') : R2Ok G (fun x y H Q => r x y H Q ∨ r' x y H Q) (orM m m') := R2Ok.or h h'
abbrev eqM : D → D → Option Vl := orM (eqSc false) (eqPy false)
abbrev neM : D → D → Option Vl := orM (eqSc true) (eqPy true)
theorem op_eqA (hu : X.A.units + 64 < cLine) : OpR X (compareOp .Eq) (fun x y H Q => rEq x y H Q ∨ rEqD X.K x y H Q) := op_eq.or (op_eqD hu)
theorem op_neA (hu : X.A.units + 64 < cLine) : OpR X (compareOp .NotEq) (fun x y H Q => rNe x y H Q ∨ rNeD X.K x y H Q) := op_ne.or (op_neD hu)
theorem ok_eq : R2Ok G (fun x y H Q => rEq x y H Q ∨ rEqD G.K x y H Q) eqM := ok_or ok_eqSc ok_eqPy
theorem ok_ne : R2Ok G (fun x y H Q => rNe x y H Q ∨ rNeD G.K x y H Q) neM := ok_or ok_neSc ok_nePy
def isNon : D → Bool
  | .non => true
  | _ => false
def isM (neg : Bool) : D → D → Option Vl
  | x, .non => some (.fz (.bl (if neg then !isNon x else isNon x)))
  | _, _ => none
theorem non_iff {x : V} {d : D} (r : Rp G F am x d) : decide (x = .non) = isNon d := by
  cases r <;> first
    | rfl
    | exact decide_eq_false (fun z => by cases z)
theorem ok_isN : R2Ok G (fun x y H Q => y = .non ∧ Q (.bl (decide (x = .non))) H) (isM false) := by
  intro am mu H F x y dx dy vl Q s mr tt rx ry h k
  cases ry with
  | non =>
    cases h
    refine ⟨rfl, ?_⟩
    rw [non_iff rx]
    exact Kd.fz s mr (.bl _) k
  | _ => cases h
theorem ok_notN : R2Ok G (fun x y H Q => y = .non ∧ Q (.bl (!decide (x = .non))) H) (isM true) := by
  intro am mu H F x y dx dy vl Q s mr tt rx ry h k
  cases ry with
  | non =>
    cases h
    refine ⟨rfl, ?_⟩
    rw [non_iff rx]
    exact Kd.fz s mr (.bl _) k
  | _ => cases h
def sVs : List D → Option (List V)
  | [] => some []
  | d :: ds => two (sV d) (sVs ds) fun v vs => some (v :: vs)
theorem sVs_at : ∀ {xs : List V} {ds : List D} {vs : List V}, RpAll G F am xs ds → sVs ds = some vs → xs = vs
  | _, _, _, .nil, h => by
    cases h
    rfl
  | _, _, _, .cons r rs, h => by
    obtain ⟨v, w, h1, h2, h3⟩ := two_some (show two (sV _) (sVs _) _ = some _ from h)
    cases h3
    rw [sV_at r h1, sVs_at rs h2]
theorem flat_sV {d : D} {v : V} (h : sV d = some v) : flatV v = true := by
  cases d <;> cases h <;> rfl
theorem flat_sVs : ∀ {ds : List D} {vs : List V}, sVs ds = some vs → vs.all flatV = true
  | [], _, h => by
    cases h
    rfl
  | d :: ds, _, h => by
    obtain ⟨v, w, h1, h2, h3⟩ := two_some (show two (sV _) (sVs _) _ = some _ from h)
    cases h3
    rw [List.all_cons, flat_sV h1, flat_sVs h2]
    rfl
def itV : D → Option (List V)
  | .lst ds => sVs ds
  | .tup ds => sVs ds
  | .scr ns => some (ns.map V.int)
  | _ => none
def inD (neg : Bool) (x y : D) : Option Vl := two (sV x) (itV y) fun v vs => some (.fz (.bl (if neg then !inV v vs else inV v vs)))
theorem all_flatI : ∀ ns : List Int, (ns.map V.int).all flatV = true
  | [] => rfl
  | n :: ns => by
    rw [List.map_cons, List.all_cons, all_flatI ns]
    rfl
theorem ok_in (neg : Bool) : R2Ok G (rIn G.K neg) (inD neg) := by
  intro am mu H F x y dx dy vl Q s mr tt rx ry h k
  obtain ⟨v, vs, h1, h2, h3⟩ := two_some h
  cases h3
  rw [sV_at rx h1]
  cases ry with
  | lst g1 g2 =>
    rw [sVs_at g2 h2] at g1
    exact ⟨_, vs, rfl, .inl (Evl.sq_of (s _ _ g1)), flat_sV h1, flat_sVs h2, Kd.fz s mr (.bl _) k⟩
  | tup g1 g2 =>
    rw [sVs_at g2 h2] at g1
    exact ⟨_, vs, rfl, .inr (Evl.ex_t s g1), flat_sV h1, flat_sVs h2, Kd.fz s mr (.bl _) k⟩
  | scr g1 =>
    cases h2
    exact ⟨_, _, rfl, .inl (Evl.ex_l s g1), flat_sV h1, all_flatI _, Kd.fz s mr (.bl _) k⟩
  | _ => cases h2
/-- one sign in a text -/
def inS (neg : Bool) : D → D → Option Vl
  | .str x, .str z => match x.cps.toList with
    | [c] => some (.fz (.bl (if neg then !decide (c ∈ z.cps.toList) else decide (c ∈ z.cps.toList))))
    | _ => none
  | _, _ => none
theorem one_sign {x : Str} {c : Nat} (h : x.cps.toList = [c]) : x = ⟨#[c]⟩ := by
  obtain ⟨cs⟩ := x
  have e : cs = #[c] := by
    apply Array.ext'
    exact h
  rw [e]
theorem ok_inS : R2Ok G (fun x y H Q => ∃ (c : Nat) (z : Str), x = .str ⟨#[c]⟩ ∧ y = .str z ∧ Q (.bl (decide (c ∈ z.cps.toList))) H) (inS false) := by
  intro am mu H F x y dx dy vl Q s mr tt rx ry h k
  cases rx with
  | str u =>
    cases ry with
    | str z =>
      have h' : (match u.cps.toList with
        | [c] => some (Vl.fz (.bl (if false then !decide (c ∈ z.cps.toList) else decide (c ∈ z.cps.toList))))
        | _ => none) = some vl := h
      split at h'
      · rename_i c hc
        cases h'
        rw [one_sign hc]
        exact ⟨c, z, rfl, rfl, Kd.fz s mr (.bl _) k⟩
      · cases h'
    | _ => cases h
  | _ => cases ry <;> cases h
theorem ok_notInS : R2Ok G (fun x y H Q => ∃ (c : Nat) (z : Str), x = .str ⟨#[c]⟩ ∧ y = .str z ∧ Q (.bl (!decide (c ∈ z.cps.toList))) H) (inS true) := by
  intro am mu H F x y dx dy vl Q s mr tt rx ry h k
  cases rx with
  | str u =>
    cases ry with
    | str z =>
      have h' : (match u.cps.toList with
        | [c] => some (Vl.fz (.bl (if true then !decide (c ∈ z.cps.toList) else decide (c ∈ z.cps.toList))))
        | _ => none) = some vl := h
      split at h'
      · rename_i c hc
        cases h'
        rw [one_sign hc]
        exact ⟨c, z, rfl, rfl, Kd.fz s mr (.bl _) k⟩
      · cases h'
    | _ => cases h
  | _ => cases ry <;> cases h
end
end Mi
end
section
set_option Elab.async false
set_option linter.all false
set_option maxRecDepth 100000
set_option maxHeartbeats 4000000
namespace Mi
open PySem PySem.Spec PyProof.Rows L2
open Evl (Ex)
section
variable {X : Cx} {G : Cl} {W : WX} {pos : Pos} {a b c e o : Expr} {f g h : EM} {st : Stmt} {sf : SM} {am : Addr} {e0 : En} {H F H' F' : Hp} {rho : List Slot} {mu mu' : Mu} {σ : L2.St} {ag : AM}
/-! ### fields -/
theorem look_zip : ∀ {ns : List Str} {xs : List V} {j : Nat} {f : Str}, ns.Nodup → ns[j]? = some f → (ns.zip xs).lookup f = xs[j]?
  | [], xs, j, f, _, h => by simp at h
  | n :: ns, [], j, f, _, h => by
    show none = _
    simp
  | n :: ns, x :: xs, 0, f, _, h => by
    simp at h
    subst h
    show List.lookup n ((n, x) :: ns.zip xs) = _
    simp [List.lookup]
  | n :: ns, x :: xs, j + 1, f, nd, h => by
    have h' : ns[j]? = some f := by simpa using h
    obtain ⟨h1, h2⟩ := List.nodup_cons.mp nd
    have hne : (f == n) = false := by
      refine beq_eq_false_iff_ne.mpr fun z => h1 ?_
      rw [← z]
      exact List.mem_of_getElem? h'
    show List.lookup f ((n, x) :: ns.zip xs) = _
    rw [show List.lookup f ((n, x) :: ns.zip xs) = (ns.zip xs).lookup f by simp [List.lookup, hne], look_zip h2 h']
    simp
/-- what is known of the class c -/
structure ClOk (G : Cl) (c : Nat) : Prop where
  cl : Cls G.K (G.ca c)
  nd : (G.fn c).Nodup
  no : ∀ f ∈ G.fn c, NoAttr G.K (G.ca c) f
def fldD (fi : Nat → Option Nat) : D → Option Vl
  | .ins c ds => match fi c with
    | some j => (ds[j]?).map .fz
    | none => none
  | _ => none
theorem d_fld {fi : Nat → Option Nat} {f : Str} {fe : EM} (hK : X.K = G.K) (hf : ∀ c j, fi c = some j → ClOk G c ∧ (G.fn c)[j]? = some f) (ho : PE X o (rd G W fe)) (hb : attributeBase o f X.env (eval o X.env) = eval o X.env) : PE X (.Attribute o f pos) (rd G W (eUn (fldD fi) fe)) := by
  refine PE.to (pe_fld ho hb) fun σ H Q ⟨am, e0, rho, mu, F, s, o, mu', e, k⟩ => ?_
  refine rd_then s e k.x fun vx m1 x H1 F1 e1 p1 s1 rx => ?_
  obtain ⟨z, hz, rfl, rfl⟩ := of_some e1
  cases hx : vx.d with
  | ins c ds =>
    rw [hx] at hz rx
    cases hj : fi c with
    | none =>
      have hz' : (match fi c with
        | some j => (ds[j]?).map Vl.fz
        | none => none) = some z := hz
      rw [hj] at hz'
      cases hz'
    | some j =>
      have hz' : (match fi c with
        | some j => (ds[j]?).map Vl.fz
        | none => none) = some z := hz
      rw [hj] at hz'
      obtain ⟨d, hd, rfl⟩ := map_some hz'
      obtain ⟨C, hn⟩ := hf c j hj
      cases rx with
      | ins h1 h2 h3 =>
        obtain ⟨v, g1, g2⟩ := h3.get hd
        rw [hK]
        exact ⟨_, _, _, _, v, rfl, s1.sub _ _ h1, C.cl, C.no f (List.mem_of_getElem? hn), by rw [look_zip C.nd hn]; exact g1, Kd.fz s1.sub s1.mr g2 (Kd.pre s.sub s.mr p1 k)⟩
  | _ => rw [hx] at hz; cases hz

/-! ### a property by its getter's meaning -/
def insC (c : Nat) : D → Bool
  | .ins c' _ => decide (c' = c)
  | _ => false
def eProp (c : Nat) (fm : FM) (f : EM) : EM := fun rho => M.bind (f rho) fun x => fun mu => if insC c x.d = true then (match fm [x.d] mu with
  | some (.ok d, m) => some (.ok d, m)
  | _ => none) else none
theorem d_prop {c : Nat} {fm : FM} {fe : EM} {f : Str} (hK : X.K = G.K) (h : PE X e (tProp (G.ca c) (spF G 1 fm) [] E0 (rd G W fe))) : PE X e (rd G W (eProp c fm fe)) := by
  refine PE.to h fun σ H Q ⟨am, e0, rho, mu, F, s, o, mu', e, k⟩ => ?_
  refine rd_then s e k.x fun vx m1 x H1 F1 e1 p1 s1 rx => ?_
  obtain ⟨hc, e2⟩ : insC c vx.d = true ∧ (match fm [vx.d] m1 with
    | some (.ok d, m) => some (Out.ok d, m)
    | _ => none) = some (o, mu') := by
    by_cases hc : insC c vx.d = true
    · rw [if_pos hc] at e1
      exact ⟨hc, e1⟩
    · rw [if_neg hc] at e1
      cases e1
  have k1 := Ko.pre s.sub s.mr p1 k
  cases hm : fm [vx.d] m1 with
  | none => rw [hm] at e2; cases e2
  | some z =>
    obtain ⟨o1, m2⟩ := z
    rw [hm] at e2
    cases o1 with
    | ex c cs => cases e2
    | ok d =>
      cases e2
      cases hx : vx.d with
      | ins c' ds =>
        rw [hx] at hc rx hm
        have ec : c' = c := of_decide_eq_true hc
        subst ec
        cases rx with
        | ins h1 h2 h3 => exact ⟨_, _, _, rfl, s1.sub _ _ h1, am, m1, F1, [.ins c' ds], s1.sub, s1.mr, .cons (.ins h1 h2 h3) .nil, s1.tb, rfl, _, _, hm, k1⟩
      | _ => rw [hx] at hc; cases hc

/-! ### an object is made -/
theorem putF_new {f : Str} {y : V} : ∀ {fs : List (Str × V)}, f ∉ fs.map (·.1) → putF f y fs = fs ++ [(f, y)]
  | [], _ => rfl
  | (g, x) :: r, h => by
    have h1 : g ≠ f := fun z => h (by rw [z]; exact List.mem_cons_self ..)
    show (if g = f then (g, y) :: r else (g, x) :: putF f y r) = _
    rw [if_neg h1, putF_new fun z => h (List.mem_cons_of_mem _ z)]
    rfl
def owI : Option Slot → Option (Nat × List D)
  | some (.ow (.ins c ds)) => some (c, ds)
  | _ => none
theorem owI_some {o : Option Slot} {c : Nat} {ds : List D} (h : owI o = some (c, ds)) : o = some (.ow (.ins c ds)) := by
  cases o with
  | none => cases h
  | some z =>
    cases z with
    | ow w =>
      cases w <;> cases h
      rfl
    | _ => cases h
/-- self.f = e, self in slot i, f the j-th field of the class c -/
def sFldI (i c j : Nat) (f : EM) : SM := sWith f fun v rho m => match owI rho[i]? with
  | some (c', ds) => if c' = c ∧ ds.length = j then some (.fl .nx (rho.set i (.ow (.ins c (ds ++ [v.d])))), m) else none
  | none => none
theorem s_fldI {i c j : Nat} {f : Str} {fe : EM} (hK : X.K = G.K) (C : ClOk G c) (hj : (G.fn c)[j]? = some f) (hl : (G.fn c).length < 1000) (h : PS X st (sFld X.K (tVar i) (rd G W fe) f)) : PS X st (rdS G W (sFldI i c j fe)) := by
  refine PS.to h fun Dn σ H ⟨am, e0, rho, mu, F, s, r, mu', e, k⟩ => ?_
  refine with_use s e k fun vl m1 v H1 F1 e1 q s1 rv k1 => ?_
  cases ho : owI rho[i]? with
  | none => rw [ho] at e1; cases e1
  | some z =>
    obtain ⟨c', ds⟩ := z
    rw [ho] at e1
    obtain ⟨⟨rfl, hd⟩, e2⟩ := ite_some e1
    cases e2
    have hi := owI_some ho
    obtain ⟨p, o, h1, h2, h3, ⟨dx, xs, eo, hle, rx⟩, h5, h6⟩ := s1.ow i _ hi
    subst eo
    have hlj : j < (G.fn c').length := (List.getElem?_eq_some_iff.mp hj).1
    have hxl : xs.length = j := by rw [rx.length, hd]
    have hnf : f ∉ (((G.fn c').take ds.length).zip xs).map (·.1) := fun hm => by
      obtain ⟨pr, hp, ef⟩ := List.mem_map.mp hm
      have hz := (List.of_mem_zip (show (pr.1, pr.2) ∈ _ from hp)).1
      rw [ef] at hz
      obtain ⟨m, hm1, hm2⟩ := List.mem_take_iff_getElem.mp hz
      have hm3 : m < j := by omega
      have e3 : (G.fn c')[m]? = some f := by rw [List.getElem?_eq_getElem (by omega), hm2]
      exact absurd (nodup_ix C.nd e3 hj) (by omega)
    have hput : putF f v (((G.fn c').take ds.length).zip xs) = ((G.fn c').take (ds ++ [vl.d]).length).zip (xs ++ [v]) := by
      rw [putF_new hnf, List.length_append, hd]
      show _ = List.zip (List.take (j + 1) (G.fn c')) (xs ++ [v])
      rw [List.take_add_one, hj]
      show _ = List.zip (List.take j (G.fn c') ++ [f]) (xs ++ [v])
      rw [List.zip_append (by rw [List.length_take, hxl]; omega)]
      rfl
    rw [hK]
    refine ⟨.ref p, h1, p, G.ca c', dx, _, rfl, h2, C.cl, C.no f (List.mem_of_getElem? hj), ?_, ?_⟩
    · rw [List.length_zip, List.length_take]
      omega
    · rw [hput]
      exact k1 σ _ F1 (Ex.refl F1) (s1.mut hi h1 ⟨dx, xs ++ [v], rfl, by rw [List.length_append, hd]; exact hlj, rx.append (.cons rv .nil)⟩ fun _ _ _ => ⟨_, _, rfl⟩)
abbrev IM := List D → M (List D)
/-- what an __init__ makes -/
def KoI (G : Cl) (c : Nat) (x : Addr) (am : Addr) (mu : Mu) (H F : Hp) (mu' : Mu) (Q : VK) (E : XK) : Out (List D) → Prop
  | .ok fs => ∀ H' F' xs dx', Post G am mu H F mu' H' F' → F' x = none → H' x = some (.ins (G.ca c) dx' ((G.fn c).zip xs)) → fs.length = (G.fn c).length → RpAll G F' am xs fs → Q .non H'
  | .ex c' cs => ∀ dd xs H' F', Post G am mu H F mu' H' F' → H' dd = some (xdOf G c' xs) → RpAll G F' am xs cs → E (.ref (G.ca c')) (some dd) H'
def spI (G : Cl) (c n : Nat) (fi : IM) : Sp := fun vs H Q E => ∃ (am : Addr) (mu : Mu) (Hp0 F : Hp) (ds : List D) (x dx : Addr) (ws : List V), vs = .ref x :: ws ∧ H = upd (upd Hp0 dx (.own x)) x (.ins (G.ca c) dx []) ∧ Hp0 x = none ∧ Hp0 dx = none ∧ dx ≠ x ∧ Ex F Hp0 ∧ MR G Hp0 F am mu ∧
  RpAll G F am ws ds ∧ Gd G Hp0 ∧ vs.length = n ∧ ∃ o mu', fi ds mu = some (o, mu') ∧ KoI G c x am mu Hp0 F mu' Q E o
def initM (m c : Nat) (full : Nat) (body : SM) : IM := fun ds mu => match body (.ow (.ins c []) :: (ds.map Slot.va ++ List.replicate (m - (ds.length + 1)) Slot.no)) mu with
  | some (.fl .nx rho', mu') => (match owI rho'[0]? with
    | some (c', fs) => if c' = c ∧ fs.length = full then some (.ok fs, mu') else none
    | none => none)
  | some (.ex c' cs _, mu') => some (.ex c' cs, mu')
  | _ => none
theorem init_start {N : List Str} {ws : List V} {ds : List D} {c : Nat} {x dx : Addr} (hs : Ex F H) (m : MR G H F am mu) (r : RpAll G F am ws ds) (tt : Gd G H) (nx : H x = none) (ndx : H dx = none) (hne : dx ≠ x) :
    Sta G am ⟨mu, H, F, x⟩ (.ow (.ins c []) :: (ds.map Slot.va ++ List.replicate (N.length - (ds.length + 1)) Slot.no)) mu (L2.start N (.ref x :: ws)) (upd (upd H dx (.own x)) x (.ins (G.ca c) dx [])) F := by
  have q : Post G am mu H F mu (upd (upd H dx (.own x)) x (.ins (G.ca c) dx [])) F := by
    have q1 : Post G am mu H F mu (upd H dx (.own x)) F := Post.lay hs m ndx
    exact q1.trans hs (Post.lay q1.sub q1.mr (by rw [upd_ne (Ne.symm hne)]; exact nx))
  have hl : (L2.start N (.ref x :: ws)) = some (.ref x) :: (ws.map some ++ List.replicate (N.length - (ws.length + 1)) none) := rfl
  have noO : ∀ (i : Nat) (w : Ow), (Slot.ow (.ins c []) :: (ds.map Slot.va ++ List.replicate (N.length - (ds.length + 1)) Slot.no))[i]? = some (.ow w) → i = 0 := fun i w h => by
    cases i with
    | zero => rfl
    | succ i =>
      have h' : (ds.map Slot.va ++ List.replicate (N.length - (ds.length + 1)) Slot.no)[i]? = some (.ow w) := h
      by_cases hi : i < ds.length
      · rw [List.getElem?_append_left (by simpa using hi), List.getElem?_map] at h'
        obtain ⟨d', h1, h2⟩ := map_some h'
        cases h2
      · rw [List.getElem?_append_right (by simpa using hi), List.getElem?_replicate] at h'
        split at h' <;> cases h'
  exact {
    sub := q.sub
    len := by
      rw [hl]
      simp [r.length]
    va := fun i d h => by
      cases i with
      | zero => cases h
      | succ i =>
        have h' : (ds.map Slot.va ++ List.replicate (N.length - (ds.length + 1)) Slot.no)[i]? = some (.va d) := h
        rw [hl]
        show ∃ v, (ws.map some ++ List.replicate (N.length - (ws.length + 1)) none)[i]? = some (some v) ∧ _
        by_cases hi : i < ds.length
        · rw [List.getElem?_append_left (by simpa using hi), List.getElem?_map] at h'
          obtain ⟨d', h1, h2⟩ := map_some h'
          cases h2
          obtain ⟨v, g1, g2⟩ := r.get h1
          refine ⟨v, ?_, g2⟩
          rw [List.getElem?_append_left (by rw [List.length_map, r.length]; exact hi), List.getElem?_map, g1]
          rfl
        · rw [List.getElem?_append_right (by simpa using hi), List.getElem?_replicate] at h'
          split at h' <;> cases h'
    ow := fun i w h => by
      have hi := noO i w h
      subst hi
      have h' : Slot.ow (.ins c []) = Slot.ow w := Option.some.inj h
      cases h'
      refine ⟨x, _, rfl, upd_same, free_F hs nx, ⟨dx, [], rfl, Nat.zero_le _, .nil⟩, new_ne m nx, nx⟩
    dj := fun i j ds es a hij h1 h2 => absurd ((noO i ds h1).trans (noO j es h2).symm) hij
    oi := fun i c' cs a h h' => by
      have hi := noO i _ h
      subst hi
      rw [hl] at h'
      cases h'
      rfl
    mr := q.mr
    keep := q.keep
    tb := q.tb.gd tt
    fF := Ex.refl F
    new := fun _ h => .inl h
    mz := Iff.rfl }
theorem init_to {N : List Str} {vs : List V} {n c : Nat} {fi : IM} {Q : VK} {E : XK} (hfi : ∀ ds mu, fi ds mu = initM N.length c (G.fn c).length sf ds mu) (h : spI G c n fi vs H Q E) : rdS G (fun cls d _ H' => E cls d H') sf { nx := fun _ H' => Q .non H', rt := Q } (L2.start N vs) H := by
  obtain ⟨am, mu, Hp0, F, ds, x, dx, ws, rfl, rfl, nx, ndx, hne, hs, m, r, tt, hl, o, mu', e, k⟩ := h
  rw [hfi] at e
  unfold initM at e
  have s := init_start (N := N) (c := c) hs m r tt nx ndx hne
  cases e1 : sf (.ow (.ins c []) :: (ds.map Slot.va ++ List.replicate (N.length - (ds.length + 1)) Slot.no)) mu with
  | none => rw [e1] at e; cases e
  | some z =>
    obtain ⟨r1, m1⟩ := z
    rw [e1] at e
    refine ⟨am, _, _, mu, F, s, r1, m1, e1, ?_⟩
    cases r1 with
    | ex c' cs rho' =>
      cases e
      exact fun dd xs σ' H' F' _ s' hd rx => k dd xs H' F' s'.whole hd rx
    | fl fl rho' =>
      cases fl with
      | nx =>
        refine fun σ' H' F' _ s' => ?_
        have e' : (match owI rho'[0]? with
          | some (c', fs) => if c' = c ∧ fs.length = (G.fn c).length then some (Out.ok fs, m1) else none
          | none => none) = some (o, mu') := e
        cases ho : owI rho'[0]? with
        | none => rw [ho] at e'; cases e'
        | some z =>
          obtain ⟨c', fs⟩ := z
          rw [ho] at e'
          obtain ⟨⟨rfl, hfs⟩, e2⟩ := ite_some e'
          cases e2
          have hi := owI_some ho
          obtain ⟨p, u, g1, g2, g3, ⟨dx', xs, eo, hle, rx⟩, _, _⟩ := s'.ow 0 _ hi
          have ep : p = x := s'.oi 0 _ _ p hi g1
          subst ep
          subst eo
          refine k H' F' xs dx' s'.whole g3 ?_ hfs rx
          rw [g2, hfs, List.take_length]
      | rt d => cases e
      | bk => cases e
      | ct => cases e
/-- a def __init__ of the text -/
theorem fn_okI {P : Program} {w : World} {K : PySem.W.Frag} {mg : Str → Option Value} {base : Heap} {x qual : Str} {st : Stmt} {fa : Addr} {fd : FuncData} {N ps : List Str} {k c : Nat} {fi : IM} (Fn : Fun K x qual st fa fd) (S : FnScope N ps (defScope st))
    (hfi : ∀ ds mu, fi ds mu = initM N.length c (G.fn c).length sf ds mu)
    (hbody : ∀ (cdv : Value) (A : Around) (outer : List Env) (s : Shared) (H : Hp) (E : XK), Room k (A.deeper (envOfC qual (defScope st) s.heap.objs.size fa cdv)) →
      PSs (cxOf (L2.CX P w) P w K mg base N qual (defScope st) fa cdv A outer s H E) (defBody st) (rdS G (fun cls d _ H' => E cls d H') sf)) : FnOk P w K mg base (L2.CX P w) (k + 1) fa fd ps (spI G c ps.length fi) := by
  refine Fn.okX S (fun vs H Q E h => ?_) fun cdv A outer s H vs Q E hr h => ?_
  · obtain ⟨_, _, _, _, _, _, _, _, _, _, _, _, _, _, _, _, _, hl, _⟩ := h
    exact hl
  · exact ⟨_, hbody cdv A outer s H E hr, init_to hfi h⟩
theorem freezeO {p : Addr} {o : HO} (q : Post G am mu H F mu' H' F') (n : H p = none) (e : H' p = some o) (ef : F' p = none) (hp : mu = none ∨ p ≠ am) : Post G am mu H F mu' H' (upd F' p o) ∧ Ex F' (upd F' p o) := by
  have g : Ex F' (upd F' p o) := Ex.new ef
  refine ⟨⟨q.keep, q.fF.trans g, fun a u h => ?_, fun a h => ?_, ?_, q.mm, q.tb⟩, g⟩
  · by_cases ha : a = p
    · rw [ha, upd_same] at h
      cases h
      rw [ha]
      exact e
    · rw [upd_ne ha] at h
      exact q.sub a u h
  · by_cases ha : a = p
    · rw [ha]
      exact .inr n
    · rw [upd_ne ha] at h
      exact q.new a h
  · refine q.mr.mono (fun hm => ?_) g fun xs _ h => h
    have hne : am ≠ p := by
      rcases hp with z | z
      · exact absurd (q.mm.mp z) hm
      · exact Ne.symm z
    rw [upd_ne hne]
    cases mu' with
    | none => exact absurd rfl hm
    | some es => exact q.mr.1
def eMake (c : Nat) (fi : IM) (g : AM) : EM := fun rho => M.bind (g rho) fun ds => M.bind (fi ds) fun fs => M.pure (.fz (.ins c fs))
theorem d_make {c n : Nat} {fi : IM} {E : XK} (hfs : ∀ ds mu fs mu', fi ds mu = some (.ok fs, mu') → fs.length = (G.fn c).length) (hE : ∀ σ cls d H', W cls d σ H' = E cls d H') (h : PE X e (tMake (G.ca c) (spI G c n fi) [] E (rdA G W ag))) (hn : ∀ rho mu ds m, ag rho mu = some (.ok ds, m) → ds.length + 1 = n) : PE X e (rd G W (eMake c fi ag)) := by
  refine PE.to h fun σ H Q ⟨am, e0, rho, mu, F, s, o, mu', e, k⟩ => ?_
  have e' : M.bind (ag rho) (fun ds => M.bind (fi ds) fun fs => M.pure (Vl.fz (.ins c fs))) mu = some (o, mu') := e
  unfold M.bind at e'
  cases e1 : ag rho mu with
  | none => rw [e1] at e'; cases e'
  | some z =>
    obtain ⟨o1, m1⟩ := z
    rw [e1] at e'
    cases o1 with
    | ex c cs =>
      cases e'
      exact ⟨am, e0, rho, mu, F, s, _, _, e1, k⟩
    | ok ds =>
      refine ⟨am, e0, rho, mu, F, s, _, _, e1, fun vs H1 F1 q r x dx nx ndx hne => ?_⟩
      have s1 := s.post q
      have k1 := Ko.pre s.sub s.mr q k
      simp only at e'
      cases e2 : fi ds m1 with
      | none => rw [e2] at e'; cases e'
      | some z =>
        obtain ⟨o2, m2⟩ := z
        rw [e2] at e'
        refine ⟨am, m1, H1, F1, ds, x, dx, vs, by rw [List.append_nil], rfl, nx, ndx, hne, s1.sub, s1.mr, r, s1.tb, ?_, o2, m2, e2, ?_⟩
        · rw [List.append_nil, List.length_cons, r.length]
          exact hn rho mu ds m1 e1
        · cases o2 with
          | ex c' cs =>
            cases e'
            exact fun dd xs H' F' q2 h2 r2 => by
              rw [← hE σ]
              exact k1 dd xs H' F' q2 h2 r2
          | ok fs =>
            cases e'
            refine fun H' F' xs dx' q2 n2 h2 hl r2 => ⟨rfl, ?_⟩
            obtain ⟨q3, g⟩ := freezeO q2 nx h2 n2 (new_ne s1.mr nx)
            exact k1 _ H' _ q3 (.ins upd_same (by rw [r2.length, hl]) (r2.mono g))
end
end Mi
end
section
set_option Elab.async false
set_option linter.all false
set_option maxRecDepth 100000
set_option maxHeartbeats 4000000
namespace Mi
open PySem PySem.Spec PyProof.Rows L2
open Evl (Ex)

/-! ### a def's contract that may ask that nothing around it is being shown (g) -/
def Qt (g : Bool) (A : Around) : Prop := g = true → A.guards = some []
structure FnC (g : Bool) (P : Program) (w : World) (K : PySem.W.Frag) (mg : Str → Option Value) (base : Heap) (CX : CXT) (k : Nat) (f : Addr) (fd : FuncData) (ps : List Str) (sp : Sp) : Prop where
  ln : ∀ vs H Q E, sp vs H Q E → vs.length = ps.length
  go : ∀ (A : Around) (outer : List Env) (s : Shared) (H : Hp) (args : Args) (us : List Value) (vs : List V) (Q : VK) (E : XK), Qt g A → Room k A → Env0 P w K mg base A outer s H → BindsTo s fd args (ps.zip us) → Vals vs us → sp vs H Q E →
    codeAny (model P w) A (.call (.ref f) args) (CR CX outer P w H s Q E) s
section
variable {g : Bool} {P : Program} {w : World} {K : PySem.W.Frag} {mg : Str → Option Value} {base : Heap} {CX : CXT} {i j k : Nat} {f : Addr} {fd : FuncData} {ps : List Str} {sp : Sp}
theorem FnC.mono (h : FnC g P w K mg base CX i f fd ps sp) (hij : i ≤ j) : FnC g P w K mg base CX j f fd ps sp := ⟨h.ln, fun A outer s H args us vs Q E q r => h.go A outer s H args us vs Q E q (r.mono hij)⟩
theorem FnC.ok (h : FnC false P w K mg base CX k f fd ps sp) : FnOk P w K mg base CX k f fd ps sp := ⟨h.ln, fun A outer s H args us vs Q E => h.go A outer s H args us vs Q E fun z => nomatch z⟩
theorem FnC.of (h : FnOk P w K mg base CX k f fd ps sp) : FnC g P w K mg base CX k f fd ps sp := ⟨h.len, fun A outer s H args us vs Q E _ => h.run A outer s H args us vs Q E⟩
/-- by the body -/
theorem fnC_by {x qual : Str} {params : Arguments} {body : List Stmt} {scope : Scope} {dvs : List V} {kws : List (Str × V)} {N : List Str} (F : FunD K x qual params body scope dvs kws f fd) (S : FnScope N ps scope) (hln : ∀ vs H Q E, sp vs H Q E → vs.length = ps.length)
    (hb : ∀ (cdv : Value) (A : Around) (outer : List Env) (s : Shared) (H : Hp) (vs : List V) (Q : VK) (E : XK), Qt g A → Room k (A.deeper (envOfC qual scope s.heap.objs.size f cdv)) → sp vs H Q E →
      ∃ t, PSs (cxOf CX P w K mg base N qual scope f cdv A outer s H E) body t ∧ t { nx := fun _ H2 => Q .non H2, rt := Q } (L2.start N vs) H) : FnC g P w K mg base CX (k + 1) f fd ps sp := by
  obtain ⟨c1, c2, c3, c4, c5, c6, c7, cdv, c8, c9, rfl, hf, hcode, _, _⟩ := F.ex
  refine ⟨hln, fun A outer s H args us vs Q E hq hroom en hbind rel hs => ?_⟩
  have there : K.In s.heap := en.mod.kin.keeps fun b o e => (en.bs b o e).left
  have free : s.heap.NoLimit := en.mod.nolimit.keeps fun b o e => (en.bs b o e).left
  have kinds : ∀ q ∈ ps.zip us, scope.names.lookup q.1 = some .local ∨ (scope.names.lookup q.1 = some .cell ∧ ((cellsFrom (s.heap.objs.size + 1) scope.names []).lookup q.1).isSome = true) := fun q hm =>
    (S.par q.1 (List.of_mem_zip hm).1).imp id fun z => ⟨z, PySem.W.cellsFrom_some _ _ _ (.inl z)⟩
  refine codeAny_call_function hroom.depth (there _ _ hf) rfl S.co S.gen rfl (PySem.W.codeRec_of there hcode) (hbind _ _ _ _ (wpAny_newFunctionEnv_cells S.kind kinds fun env he s2 inC => ?_))
  cases he
  obtain ⟨t, ht, hw⟩ := hb cdv A outer s H vs Q E hq (hroom.deeper _) hs
  have start : Inv (cxOf CX P w K mg base N qual scope f cdv A outer s H E) [] (L2.start N vs) H s2 := inv_start S hroom.hd en (hln _ _ _ _ hs) rel inC
  refine ⟨free.keeps inC.toInCall.keep, codeAny_func (wpAny_mono (ht.run [] s2 (L2.start N vs) H _ start hw) (fun fl s3 h3 => ?_) fun _ _ h3 => h3)⟩
  have last : ∀ {σ2 : L2.St} {H2 : Hp} {v : V} {u : Value}, Inv (cxOf CX P w K mg base N qual scope f cdv A outer s H E) [] σ2 H2 s3 → RelV v u → Q v H2 → CE outer P w H s Q u s3 :=
    fun {_ H2 v _} J rv q => ⟨v, H2, J.os, J.bare, J.base, J.hok, rv, q⟩
  match fl, h3 with
  | .ret _, ⟨_, _, _, J, rv, q⟩ => exact last J rv q
  | .next, ⟨_, _, J, q⟩ => exact last (v := V.non) (u := Value.none) J rfl q
  | .brk, ⟨_, _, _, q⟩ => exact q.elim
  | .cont, ⟨_, _, _, q⟩ => exact q.elim
end
section
variable {g : Bool} {X : Cx} {CX : CXT} {k : Nat} {f : Addr} {fd : FuncData} {ps : List Str} {sp : Sp} {E : L2.St → XK} {x : Str} {p pos : Pos} {e : Expr} {es : List Expr} {t : TA}
/-- f(e, ..) -/
theorem pe_callC (F : FnC g X.prog X.w X.K X.mg X.base CX k f fd ps sp) (hq : Qt g X.A) (hr : Room k X.A) (hgl : Gl X x) (hm : X.mg x = some (.ref f)) (hk : PySem.W.keepIn X.K (.ref f) = true) (hb : Binds X.K fd ps []) (hx : ∀ σ, PassesAt CX X σ (E σ))
    (hdb : (x == ("__debug__" : Str)) = false) (he : starEach (e :: es) X.env = (false, eval e X.env) :: starEach es X.env) (hpl : (backTo pos (starEach es X.env)).any (·.1) = false) (ha : PA X (e :: es) t) : PE X (.Call (.Name x p) (e :: es) [] pos) (tCallSD sp [] E t) := by
  refine ⟨fun pins s σ H Q I want => wpAny_Call_Name_kw (ld_glob I hgl hm (PySem.W.callWith_K (h₀ := X.base) I.ok.mod.kin hk (thn (ha.run pos pins s σ H _ I want) fun us s2 ⟨vs, H2, I2, rel, q⟩ => ⟨I2.kIn, ?_⟩) he hpl) hdb)⟩
  have q : sp vs H2 Q (E σ) := (List.append_nil vs) ▸ (show sp (vs ++ []) H2 Q (E σ) from q)
  have hl : (us ++ []).length = ps.length := by
    rw [List.append_nil, ← rel.length]
    exact F.ln _ _ _ _ q
  have bind := hb s2 us I2.kIn hl
  rw [List.append_nil] at bind
  refine wpAny_call (codeAny_mono (F.go X.A X.stack s2 H2 ⟨us, []⟩ us vs Q (E σ) hq hr I2.env0 bind rel q) fun r s3 h3 => ?_)
  match r, h3 with
  | .error e, h3 => exact hx σ pins H2 s2 e s3 I2 h3
  | .ok (.ret u), h3 => exact I2.after h3
  | .ok .next, h3 => exact h3.elim
  | .ok .brk, h3 => exact h3.elim
  | .ok .cont, h3 => exact h3.elim
end
/-! ### the law's own call -/
section
variable {P : Program} {w : World} {K : PySem.W.Frag} {mg mb : Str → Option Value} {CX : CXT} {k : Nat} {fa a : Addr} {fd : FuncData} {x : Str} {sp : Sp} {s : Shared} {vs : List Value} {ns : List Int}
/-- what the judge of a law asks of its call -/
abbrev LawEnd (s : Shared) (r : Result) (s2 : Shared) : Prop := r = .ok (.ret (.bool true)) ∧ OldK s.heap s2.heap ∧ s2.os = s.os ∧ AllBare s2.gens
theorem law_from {H : Hp} (KX : K.In s.heap) (hns : s.heap.Ns mainGlobals mg) (hb : s.heap.Ns builtinsNs mb) (hbb : ∀ x : Str, x ≠ "__name__" → mb x = bootBuiltins x) (hlim : s.heap.NoLimit) (hg : s.gens = #[])
    (ha : s.heap.get? a = some { cls := .type "list", data := .seq vs.toArray }) (hr : Room k callerA) (F : ∀ base : Heap, K.In base → base.Ns mainGlobals mg → FnC true P w K mg base CX k fa fd [x] sp)
    (hbind : ∀ (s : Shared) (u : Value), BindsTo s fd ⟨[u], []⟩ [(x, u)]) (hO : Only H) (hok : HOk P w H s.heap) (hA : ∀ b, H b ≠ none → b = a) (hK : H a ≠ none → K.lookup a = none)
    (hsp : sp [.ref a] H (fun v _ => v = .bl true) fun _ _ _ => False) (hCX : ∀ H e s', CX [] H s (fun _ _ _ => False) e s' → False) :
    codeAny (model P w) callerA (.call (.ref fa) ⟨[.ref a], []⟩) (LawEnd s) s := by
  have at_a : ∀ {b : Addr} {u : HO}, H b = some u → b = a := fun {b u} z => hA b fun n => by
    rw [n] at z
    exact nomatch z
  have under : ∀ {b : Addr} {o : Obj}, s.heap.get? b = some o → H b = none → (hidT s.heap H).get? b = some o := hidT_get
  have dicts : ∀ {b : Addr} {m : Str → Option Value}, s.heap.Ns b m → (hidT s.heap H).Ns b m := fun {b m} ⟨o, es, ep, there, isD, rest⟩ => by
    refine ⟨o, es, ep, under there ?_, isD, rest⟩
    match q : H b with
    | none => rfl
    | some u =>
      obtain rfl := at_a q
      cases ha.symm.trans there
      exact nomatch isD
  have inB : K.In (hidT s.heap H) := fun b o look => under (KX b o look) (by
    match q : H b with
    | none => rfl
    | some u =>
      obtain rfl := at_a q
      exact nomatch look.symm.trans (hK (by rw [q]; exact nofun)))
  obtain ⟨mc, l1, l2⟩ := hlim
  have ground : Mod K mg (hidT s.heap H) := ⟨inB, dicts hns, ⟨mb, dicts hb, hbb⟩, ⟨mc, dicts l1, l2⟩⟩
  have en : Env0 P w K mg (hidT s.heap H) callerA [] s H := ⟨rfl, ground, fun b o z => of_hidT z, Nat.le_of_eq (hidT_size ..), trivial, nofun, hok, .of_eq hg⟩
  refine codeAny_mono ((F _ inB (dicts hns)).go callerA [] s H ⟨[.ref a], []⟩ [.ref a] [.ref a] _ _ (fun _ => rfl) hr en (hbind s (.ref a)) (.cons rfl .nil) hsp) fun r s2 h => ?_
  match r, h with
  | .error e, h => exact (hCX H e s2 h).elim
  | .ok .next, h => exact h.elim
  | .ok .brk, h => exact h.elim
  | .ok .cont, h => exact h.elim
  | .ok (.ret u), ⟨v, H2, os, bare, un, hok2, rel, q⟩ =>
    obtain rfl : v = .bl true := q
    obtain rfl : u = Value.bool true := rel
    refine ⟨rfl, OldK.of_keep fun b o z => ?_, os, bare⟩
    rcases hO b with n | ⟨o0, xs, y⟩
    · exact un.keep b o z n nofun nofun
    · have y2 := un.frzs b o0 _ y
      rw [(hok b _ y).1] at z
      cases z
      exact (hok2 b _ y2).1
theorem law_goC (KX : K.In s.heap) (hns : s.heap.Ns mainGlobals mg) (hb : s.heap.Ns builtinsNs mb) (hbb : ∀ x : Str, x ≠ "__name__" → mb x = bootBuiltins x) (hlim : s.heap.NoLimit) (hg : s.gens = #[])
    (ha : s.heap.get? a = some { cls := .type "list", data := .seq vs.toArray }) (hi : IntsAre vs ns) (hl : ns.length ≤ sizeLine) (hr : Room k callerA) (F : ∀ base : Heap, K.In base → base.Ns mainGlobals mg → FnC true P w K mg base CX k fa fd [x] sp)
    (hbind : ∀ (s : Shared) (u : Value), BindsTo s fd ⟨[u], []⟩ [(x, u)]) (hsp : ∀ H : Hp, Only H → SqL K H a (ns.map V.int) → sp [.ref a] H (fun v _ => v = .bl true) fun _ _ _ => False)
    (hCX : ∀ H e s', CX [] H s (fun _ _ _ => False) e s' → False) : codeAny (model P w) callerA (.call (.ref fa) ⟨[.ref a], []⟩) (LawEnd s) s := by
  have rel := vals_ints hi
  match q : K.lookup a with
  | some o =>
    cases ha.symm.trans (KX a o q)
    have no : ∀ b : Addr, ¬ ((fun _ => none : Hp) b ≠ none) := fun b z => z rfl
    have only : Only fun _ => none := fun _ => .inl rfl
    exact law_from (H := fun _ => none) KX hns hb hbb hlim hg ha hr F hbind only (fun b u z => nomatch z) (fun b z => (no b z).elim) (fun z => (no a z).elim)
      (hsp _ only (.inr ⟨_, vs.toArray, _, q, rfl, rfl, rfl, by rw [List.size_toArray, hi.length]; exact hl, rel⟩)) hCX
  | none =>
    obtain ⟨H, eH⟩ : ∃ H : Hp, H = fun b => if b = a then some (.frz { cls := .type "list", data := .seq vs.toArray } (.lst (ns.map V.int))) else none := ⟨_, rfl⟩
    have e1 : H a = some (.frz { cls := .type "list", data := .seq vs.toArray } (.lst (ns.map V.int))) := by rw [eH]; exact if_pos rfl
    have e2 : ∀ b, b ≠ a → H b = none := fun b n => by rw [eH]; exact if_neg n
    have only : Only H := fun b => if n : b = a then .inr ⟨_, _, n ▸ e1⟩ else .inl (e2 b n)
    refine law_from (H := H) KX hns hb hbb hlim hg ha hr F hbind only (fun b u z => ?_) (fun b z => Classical.byContradiction fun n => z (e2 b n)) (fun _ => q) (hsp H only (.inl (.inr ⟨_, e1⟩))) hCX
    by_cases n : b = a
    · subst n
      cases e1.symm.trans z
      exact ⟨ha, by rw [List.length_map]; exact hl, vs, _, rel, ha⟩
    · exact nomatch (e2 b n).symm.trans z
end
theorem walkC {l : PySem.W.OpenLaw} {n k : Nat} {q : Program} {loose : List Str} {XP : (Str → Option Value) → Heap → Prop} {YP : World → Heap → Prop} {d : DefRec} {CX : World → CXT} {x : Str} (hn : l.most = some n) (hn2 : n ≤ sizeLine) (hdf : d.params.defaults = []) (hr : Room k callerA)
    (F : ∀ (w : World) (mg : Str → Option Value) (fa : Addr) (h : Heap), YP w h → h.Ns mainGlobals mg → mg d.name = some (.ref fa) →
      ∃ (K : PySem.W.Frag) (fd : FuncData) (sp : Sp), K.In h ∧ (∀ (s : Shared) (u : Value), BindsTo s fd ⟨[u], []⟩ [(x, u)]) ∧ (∀ (H : Hp) (a : Addr) (ns : List Int), ns.length ≤ n → Only H → SqL K H a (ns.map V.int) → sp [.ref a] H (fun v _ => v = .bl true) fun _ _ _ => False) ∧
        ∀ base : Heap, K.In base → base.Ns mainGlobals mg → FnC true l.prog w K mg base (CX w) k fa fd [x] sp)
    (hCX : ∀ (w : World) (H : Hp) (s : Shared) (e : Value) (s' : Shared), CX w [] H s (fun _ _ _ => False) e s' → False) : PySem.W.WalkO q loose XP YP l.row.toRowW d [] (fun f vs => PySem.call f vs) :=
  Att.attach_call hn hdf fun w s0 s mg mb fa o pm cd doc a vs ns G Y _ _ _ hmg hobj hints hlen hg =>
    let ⟨_, _, _, KX, hb, hsp, hF⟩ := F w mg fa _ Y G.T.g hmg
    law_goC KX G.T.g G.T.b G.T.builtins G.T.nolimit hg hobj hints (Nat.le_trans hlen hn2) hr hF hb (fun H o S => hsp H a ns hlen o S) fun H e s' => hCX w H s e s'
end Mi
end
section
set_option Elab.async false
set_option linter.all false
set_option maxRecDepth 100000
set_option maxHeartbeats 4000000
namespace Mi
open PySem PySem.Spec PyProof.Rows L2
open Evl (Ex)

/-! ### what a place of code knows; operators for all kinds -/
structure Fx0 (X : Cx) (G : Cl) (W : WX) : Prop where
  hK : X.K = G.K
  tk : Takes X W
  po : PassesOwn (model X.prog X.w) X.A X.env X.xe
/-- .. where nothing is handled, and there is room -/
structure Fx (gb : Bool) (X : Cx) (G : Cl) (W : WX) (k : Nat) : Prop extends Fx0 X G W where
  gd : Qt gb X.A
  hr : Room k X.A
  calm : X.calm = true
instance {gb : Bool} {X : Cx} {G : Cl} {W : WX} {k : Nat} : CoeOut (Fx gb X G W k) (Fx0 X G W) := ⟨Fx.toFx0⟩
section
variable {gb : Bool} {X : Cx} {G : Cl} {W : WX} {k : Nat} {pos : Pos} {a b c e : Expr} {f g h : EM} {x : Str} {ag : AM} {es : List Expr} {tf : BM}
theorem Fx.blk (fx : Fx gb X G W k) (s : Shared) (H : Hp) (scope : Scope) (cenv : Env) (fp : List Addr) : Fx gb (X.blk s H scope cenv fp) G WN k := ⟨⟨fx.hK, takes0, PassesOwn.never⟩, fx.gd, fx.hr, fx.calm⟩
def addA : D → D → Option Vl := orM addI (orM catL (orM catT catS))
/-- one factor small -/
def mulS : D → D → Option Vl
  | .int i, .int j => if i.natAbs < 2 ^ 64 ∨ j.natAbs < 2 ^ 64 then some (.fz (.int (i * j))) else none
  | _, _ => none
theorem ok_mulS : R2Ok G (rI CMul fun i j => .int (i * j)) mulS := ok_I fun x y vl h => by
  cases x with
  | int i =>
    cases y with
    | int j =>
      obtain ⟨c, e⟩ := ite_some h
      refine ⟨i, j, _, rfl, rfl, e.symm, ?_, fun _ _ => .int _⟩
      unfold CMul
      omega
    | _ => cases h
  | _ => cases h
def mulA : D → D → Option Vl := orM mulS (orM mulI (orM repL repT))
def divS : D → D → Option Vl
  | .int i, .int j => if 0 < j ∧ j < 2 ^ 64 then some (.fz (.int (i / j))) else none
  | _, _ => none
theorem ok_divS : R2Ok G (rI CDivW fun i j => .int (i / j)) divS := ok_I fun x y vl h => by
  cases x with
  | int i =>
    cases y with
    | int j =>
      obtain ⟨c, e⟩ := ite_some h
      refine ⟨i, j, _, rfl, rfl, e.symm, ⟨c.1, ?_⟩, fun _ _ => .int _⟩
      have h1 : j.natAbs < 2 ^ 64 := by omega
      have h2 : j.natAbs ≠ 0 := by omega
      have := (Nat.log2_lt h2).mpr h1
      omega
    | _ => cases h
  | _ => cases h
def divA : D → D → Option Vl := orM divS (orM divI divN)
def modA : D → D → Option Vl := orM modI modN
theorem ok_catT' (hK : X.K = G.K) : R2Ok G (rCatA X.K) catT := by
  rw [hK]
  exact ok_catT
theorem ok_repT' (hK : X.K = G.K) : R2Ok G (rRepT X.K) repT := by
  rw [hK]
  exact ok_repT
theorem x_add (fx : Fx0 X G W) (ha : PE X a (rd G W f)) (hb : PE X b (rd G W g)) : PE X (.BinOp a .Add b pos) (rd G W (eBin addA f g)) :=
  d_bin (op_add.or (op_cat.or (op_catA.or op_add_str))) (ok_or ok_add (ok_or ok_catL (ok_or (ok_catT' fx.hK) ok_catS))) ha hb
theorem x_sub (fx : Fx0 X G W) (ha : PE X a (rd G W f)) (hb : PE X b (rd G W g)) : PE X (.BinOp a .Sub b pos) (rd G W (eBin subI f g)) := d_bin op_sub ok_sub ha hb
theorem x_mul (fx : Fx0 X G W) (ha : PE X a (rd G W f)) (hb : PE X b (rd G W g)) : PE X (.BinOp a .Mult b pos) (rd G W (eBin mulA f g)) :=
  d_bin (op_mul.or (op_mulW.or (op_rep.or op_repT))) (ok_or ok_mulS (ok_or ok_mul (ok_or ok_repL (ok_repT' fx.hK)))) ha hb
theorem x_div (fx : Fx0 X G W) (ha : PE X a (rd G W f)) (hb : PE X b (rd G W g)) : PE X (.BinOp a .FloorDiv b pos) (rd G W (eBin divA f g)) := d_bin (op_fdivW.or (op_fdivW.or op_fdivN)) (ok_or ok_divS (ok_or ok_div ok_divN)) ha hb
theorem x_mod (fx : Fx0 X G W) (ha : PE X a (rd G W f)) (hb : PE X b (rd G W g)) : PE X (.BinOp a .Mod b pos) (rd G W (eBin modA f g)) := d_bin (op_mod.or op_modN) (ok_or ok_mod ok_modN) ha hb
theorem x_pow (fx : Fx0 X G W) (ha : PE X a (rd G W f)) (hb : PE X b (rd G W g)) : PE X (.BinOp a .Pow b pos) (rd G W (eBin powI f g)) := d_bin op_pow ok_pow ha hb
/-! comparisons: what the operator is, what it means -/
def ltM : D → D → Option Vl := cmpI fun i j => decide (i < j)
def leM : D → D → Option Vl := cmpI fun i j => decide (i ≤ j)
def gtM : D → D → Option Vl := cmpI fun i j => decide (j < i)
def geM : D → D → Option Vl := cmpI fun i j => decide (j ≤ i)
structure CpOk (X : Cx) (G : Cl) (op : CmpOp) (m : D → D → Option Vl) : Prop where
  ex : ∃ r, OpR X (compareOp op) r ∧ R2Ok G r m
theorem cp_lt : CpOk X G .Lt ltM := ⟨_, op_lt, ok_cmpI⟩
theorem cp_le : CpOk X G .LtE leM := ⟨_, op_le, ok_cmpI⟩
theorem cp_gt : CpOk X G .Gt gtM := ⟨_, op_gt, ok_cmpI⟩
theorem cp_ge : CpOk X G .GtE geM := ⟨_, op_ge, ok_cmpI⟩
theorem cp_eq (fx : Fx gb X G W k) : CpOk X G .Eq eqM := ⟨_, op_eqA fx.hr.units, by rw [fx.hK]; exact ok_eq⟩
theorem cp_ne (fx : Fx gb X G W k) : CpOk X G .NotEq neM := ⟨_, op_neA fx.hr.units, by rw [fx.hK]; exact ok_ne⟩
theorem cp_is : CpOk X G .Is (isM false) := ⟨_, op_isN, ok_isN⟩
theorem cp_isnot : CpOk X G .IsNot (isM true) := ⟨_, op_notN, ok_notN⟩
theorem x_cmp {op : CmpOp} {m : D → D → Option Vl} (fx : Fx0 X G W) (ho : CpOk X G op m) (ha : PE X a (rd G W f)) (hb : PE X b (rd G W g)) (hm : behindInMarks op b = false) : PE X (.Compare a [op] [b] pos) (rd G W (eBin m f g)) := by
  obtain ⟨r, h1, h2⟩ := ho.ex
  exact d_cmp h1 h2 ha hb hm
theorem y_cmp {op : CmpOp} {m : D → D → Option Vl} (fx : Fx0 X G W) (ho : CpOk X G op m) (ha : PE X a (rd G W f)) (hb : PE X b (rd G W g)) (hm : behindInMarks op b = false) : PT X (.Compare a [op] [b] pos) (rdT G W (bOf (eBin m f g))) := by
  obtain ⟨r, h1, h2⟩ := ho.ex
  exact t_cmp h1 h2 ha hb hm
theorem x_ix (fx : Fx0 X G W) (ha : PE X a (rd G W f)) (hb : PE X b (rd G W g)) (hs : PlainIx b) : PE X (.Subscript a b pos) (rd G W (eIx f g)) := d_ixs fx.hK ha hb hs
/-! calls of built-ins -/
structure BiOk (X : Cx) (G : Cl) (x : Str) (m : List D → Option Vl) : Prop where
  ex : ∃ v r, CallR X v r ∧ CallOk G r m ∧ X.mg x = none ∧ ((∃ id, v = .builtin id ∧ bootBuiltins x = some (.builtin id)) ∨ ∃ T, v = .type T ∧ bootBuiltins x = some (.type T))
theorem x_bi {m : List D → Option Vl} (fx : Fx0 X G W) (h : BiOk X G x m) (hg : Gl X x) (ha : PA X (e :: es) (rdA G W ag)) {p : Pos} (hn : x ≠ "__name__" := by decide) (hd : (x == ("__debug__" : Str)) = false := by decide) (he : starEach (e :: es) X.env = (false, eval e X.env) :: starEach es X.env := by rfl) (hpl : (backTo pos (starEach es X.env)).any (·.1) = false := by rfl) :
    PE X (.Call (.Name x p) (e :: es) [] pos) (rd G W (eCall m ag)) := by
  obtain ⟨v, r, h1, h2, h3, h4⟩ := h.ex
  rcases h4 with ⟨id, rfl, h4⟩ | ⟨T, rfl, h4⟩
  · exact d_call (pe_callB h1 hg h3 h4 ha hn hd he hpl) h2
  · exact d_call (pe_callTy h1 hg h3 h4 ha hn hd he hpl) h2
theorem boot_max : bootBuiltins "max" = some (.builtin "max") := by decide +kernel
theorem boot_min : bootBuiltins "min" = some (.builtin "min") := by decide +kernel
theorem boot_abs : bootBuiltins "abs" = some (.builtin "abs") := by decide +kernel
theorem boot_sum : bootBuiltins "sum" = some (.builtin "sum") := by decide +kernel
theorem boot_all : bootBuiltins "all" = some (.builtin "all") := by decide +kernel
theorem boot_any : bootBuiltins "any" = some (.builtin "any") := by decide +kernel
theorem boot_sorted : bootBuiltins "sorted" = some (.builtin "sorted") := by decide +kernel
theorem bi_len (fx : Fx0 X G W) (h : X.mg "len" = none) : BiOk X G "len" (m1 lenD) := ⟨_, _, call_lenA, by rw [fx.hK]; exact ok_len, h, .inl ⟨_, rfl, PySem.boot_len⟩⟩
theorem bi_abs (fx : Fx0 X G W) (h : X.mg "abs" = none) : BiOk X G "abs" (m1 absM) := ⟨_, _, call_abs, ok_abs, h, .inl ⟨_, rfl, boot_abs⟩⟩
theorem bi_all (fx : Fx gb X G W k) (h : X.mg "all" = none) : BiOk X G "all" (m1 allM) := ⟨_, _, cr_all fx.calm, by rw [fx.hK]; exact ok_all, h, .inl ⟨_, rfl, boot_all⟩⟩
theorem bi_any (fx : Fx gb X G W k) (h : X.mg "any" = none) : BiOk X G "any" (m1 anyM) := ⟨_, _, cr_any fx.calm, by rw [fx.hK]; exact ok_any, h, .inl ⟨_, rfl, boot_any⟩⟩
theorem bi_sum (fx : Fx gb X G W k) (h : X.mg "sum" = none) : BiOk X G "sum" (m1 sumM) := ⟨_, _, cr_sum fx.calm, by rw [fx.hK]; exact ok_sum, h, .inl ⟨_, rfl, boot_sum⟩⟩
theorem CallOk.or {r r' : List V → Hp → VK → Prop} {m m' : List D → Option Vl} (h : CallOk G r m) (h' : CallOk G r' m') : CallOk G (fun xs H Q => r xs H Q ∨ r' xs H Q) (fun ds => match m ds with
    | some z => some z
    | none => m' ds) := by
  intro am mu H F vs ds vl Q s mr ra e k
  cases e1 : m ds with
  | some z =>
    simp only [e1] at e
    cases e
    exact .inl (h am mu H F vs ds _ Q s mr ra e1 k)
  | none =>
    simp only [e1] at e
    exact .inr (h' am mu H F vs ds _ Q s mr ra e k)
def orC (m m' : List D → Option Vl) : List D → Option Vl := fun ds => match m ds with
  | some z => some z
  | none => m' ds
theorem bi_int (fx : Fx0 X G W) (h : X.mg "int" = none) : BiOk X G "int" (m1 intM) := ⟨_, _, call_int1, ok_int, h, .inr ⟨_, rfl, boot_int⟩⟩
theorem bi_bool (fx : Fx0 X G W) (h : X.mg "bool" = none) : BiOk X G "bool" (m1 boolM) := ⟨_, _, call_bool1, ok_bool, h, .inr ⟨_, rfl, boot_bool⟩⟩
theorem bi_str (fx : Fx0 X G W) (h : X.mg "str" = none) : BiOk X G "str" (m1 strM) := ⟨_, _, call_str_int, ok_str, h, .inr ⟨_, rfl, boot_str⟩⟩
theorem bi_list (fx : Fx0 X G W) (h : X.mg "list" = none) : BiOk X G "list" (m1 listM) := ⟨_, _, call_list_of, by rw [fx.hK]; exact ok_list, h, .inr ⟨_, rfl, boot_list⟩⟩
theorem bi_tuple (fx : Fx0 X G W) (h : X.mg "tuple" = none) : BiOk X G "tuple" (m1 tupM) := ⟨_, _, call_tuple_of, by rw [fx.hK]; exact ok_tup, h, .inr ⟨_, rfl, boot_tuple⟩⟩
theorem bi_sorted (fx : Fx0 X G W) (h : X.mg "sorted" = none) : BiOk X G "sorted" (m1 sortM) := ⟨_, _, cr_sortedI, by rw [fx.hK]; exact ok_sorted, h, .inl ⟨_, rfl, boot_sorted⟩⟩
theorem bi_max (fx : Fx gb X G W k) (h : X.mg "max" = none) : BiOk X G "max" (orC (m2 maxM) (m1 maxL)) := ⟨_, _, (call_max2 fx.calm).or (cr_max fx.calm), by rw [fx.hK]; exact CallOk.or ok_max2 ok_maxL, h, .inl ⟨_, rfl, boot_max⟩⟩
theorem bi_min (fx : Fx gb X G W k) (h : X.mg "min" = none) : BiOk X G "min" (orC (m2 minM) (m1 minL)) := ⟨_, _, (call_min2 fx.calm).or (cr_min fx.calm), by rw [fx.hK]; exact CallOk.or ok_min2 ok_minL, h, .inl ⟨_, rfl, boot_min⟩⟩
/-! loops over lists and tuples alike -/
def anyD (d : D) : Option (List D) := match seqD d with
  | some ds => some ds
  | none => tupD d
theorem any_cases {d : D} {ds : List D} (h : anyD d = some ds) : seqD d = some ds ∨ (seqD d = none ∧ tupD d = some ds) := by
  unfold anyD at h
  cases e : seqD d with
  | some z =>
    rw [e] at h
    exact .inl h
  | none =>
    rw [e] at h
    exact .inr ⟨rfl, h⟩
theorem PS.or {st : Stmt} {t t' : TS} (h : PS X st t) (h' : PS X st t') : PS X st (fun Dn σ H => t Dn σ H ∨ t' Dn σ H) := ⟨fun pins s σ H Dn I q => q.elim (h.run pins s σ H Dn I) (h'.run pins s σ H Dn I)⟩
theorem PE.or {e : Expr} {t t' : TE} (h : PE X e t) (h' : PE X e t') : PE X e (fun σ H Q => t σ H Q ∨ t' σ H Q) := ⟨fun pins s σ H Q I q => q.elim (h.run pins s σ H Q I) (h'.run pins s σ H Q I)⟩
theorem sFor_or {put : D → List Slot → Option (List Slot)} {sf : SM} {Dn : Ends} {σ : L2.St} {H : Hp} (q : rdS G W (sFor anyD f (sBody put sf)) Dn σ H) : rdS G W (sFor seqD f (sBody put sf)) Dn σ H ∨ rdS G W (sFor tupD f (sBody put sf)) Dn σ H := by
  obtain ⟨am, e0, rho, mu, F, s, r, mu', e, kk⟩ := q
  unfold sFor sWith at e
  cases e1 : f rho mu with
  | none => rw [e1] at e; cases e
  | some z =>
    obtain ⟨o1, m1⟩ := z
    rw [e1] at e
    cases o1 with
    | ex c ds => exact .inl ⟨am, e0, rho, mu, F, s, r, mu', by unfold sFor sWith; rw [e1]; exact e, kk⟩
    | ok vl =>
      simp only at e
      cases e2 : anyD vl.d with
      | none => rw [e2] at e; cases e
      | some ds =>
        rw [e2] at e
        rcases any_cases e2 with h | ⟨_, h⟩
        · exact .inl ⟨am, e0, rho, mu, F, s, r, mu', by unfold sFor sWith; rw [e1]; simp only [h]; exact e, kk⟩
        · exact .inr ⟨am, e0, rho, mu, F, s, r, mu', by unfold sFor sWith; rw [e1]; simp only [h]; exact e, kk⟩
theorem z_forA {tg iter : Expr} {body : List Stmt} {gt : TG} {put : D → List Slot → Option (List Slot)} {sf : SM} (fx : Fx gb X G W k) (hi : PE X iter (rd G W f)) (hgg : PG X tg gt) (hg : TgOk G gt put) (hb : PSs X body (rdS G W sf))
    (hs : ∀ x, foldedSetIterable iter X.env x = pure x := by intro _; rfl) : PS X (.For tg iter body [] pos) (rdS G W (sFor anyD f (sBody put sf))) :=
  PS.to (PS.or (s_forL (tg := tg) (iter := iter) fx.hK (ps_for fx.po fx.calm (pi_list hi) hgg hb hs) hg) (s_forT fx.hK (ps_for fx.po fx.calm (pi_tup hi) hgg hb hs) hg)) fun _ _ _ q => sFor_or q
theorem z_forR1 {tg : Expr} {p p2 : Pos} {body : List Stmt} {gt : TG} {put : D → List Slot → Option (List Slot)} {sf : SM} (fx : Fx gb X G W k) (hgl : Gl X "range") (hm : X.mg "range" = none) (ha : PA X [a] (rdA G W ag)) (hgg : PG X tg gt) (hg : TgOk G gt put) (hb : PSs X body (rdS G W sf))
    (hst : starEach [a] X.env = [(false, eval a X.env)] := by rfl) (hs : ∀ x, foldedSetIterable (.Call (.Name "range" p) [a] [] p2) X.env x = pure x := by intro _; rfl) : PS X (.For tg (.Call (.Name "range" p) [a] [] p2) body [] pos) (rdS G W (sForR rng1 ag (sBody put sf))) :=
  s_forR1 (ps_for fx.po fx.calm (pi_range1 hgl hm ha hst) hgg hb hs) hg
theorem z_forR2 {tg : Expr} {p p2 : Pos} {body : List Stmt} {gt : TG} {put : D → List Slot → Option (List Slot)} {sf : SM} (fx : Fx gb X G W k) (hgl : Gl X "range") (hm : X.mg "range" = none) (ha : PA X [a, b] (rdA G W ag)) (hgg : PG X tg gt) (hg : TgOk G gt put) (hb : PSs X body (rdS G W sf))
    (hst : starEach [a, b] X.env = [(false, eval a X.env), (false, eval b X.env)] := by rfl) (hst2 : starEach [b] X.env = [(false, eval b X.env)] := by rfl) (hs : ∀ x, foldedSetIterable (.Call (.Name "range" p) [a, b] [] p2) X.env x = pure x := by intro _; rfl) : PS X (.For tg (.Call (.Name "range" p) [a, b] [] p2) body [] pos) (rdS G W (sForR rng2 ag (sBody put sf))) :=
  s_forR2 (ps_for fx.po fx.calm (pi_range2 hgl hm ha hst hst2) hgg hb hs) hg
theorem z_while {body : List Stmt} {sf : SM} (n : Nat) (fx : Fx0 X G W) (hc : PT X c (rdT G W tf)) (hb : PSs X body (rdS G W sf)) : PS X (.While c body [] pos) (rdS G W (whileN tf sf n)) := s_while n (ps_while fx.po hc hb)
/-! comprehensions -/
theorem eLc_or {put : D → List Slot → Option (List Slot)} {vs : List Nat} {fi : EM} {σ : L2.St} {H : Hp} {Q : VK} (q : rd G W (eLc anyD fi put vs tf f) σ H Q) : rd G W (eLc seqD fi put vs tf f) σ H Q ∨ rd G W (eLc tupD fi put vs tf f) σ H Q := by
  obtain ⟨am, e0, rho, mu, F, s, o, mu', e, kk⟩ := q
  unfold eLc M.bind at e
  cases e1 : fi rho mu with
  | none => rw [e1] at e; cases e
  | some z =>
    obtain ⟨o1, m1⟩ := z
    rw [e1] at e
    cases o1 with
    | ex c ds => exact .inl ⟨am, e0, rho, mu, F, s, o, mu', by unfold eLc M.bind; rw [e1]; exact e, kk⟩
    | ok vl =>
      simp only at e
      cases e2 : anyD vl.d with
      | none => rw [e2] at e; cases e
      | some ds =>
        rw [e2] at e
        rcases any_cases e2 with h | ⟨_, h⟩
        · exact .inl ⟨am, e0, rho, mu, F, s, o, mu', by unfold eLc M.bind; rw [e1]; simp only [h]; exact e, kk⟩
        · exact .inr ⟨am, e0, rho, mu, F, s, o, mu', by unfold eLc M.bind; rw [e1]; simp only [h]; exact e, kk⟩
section
variable {elt tg iter : Expr} {ifs : List Expr} {scope : Scope} {own : List (Str × Nat)} {gt : TG} {put : D → List Slot → Option (List Slot)} {fi : EM}
abbrev Bk (gb : Bool) (X : Cx) (G : Cl) (k : Nat) (scope : Scope) (P : Cx → Prop) : Prop := ∀ (s : Shared) (H : Hp) (C : Addr) (cl : List (Str × Addr)) (fp : List Addr), Fx gb (X.blk s H scope (compEnvC scope cl C X.env) fp) G WN k → P (X.blk s H scope (compEnvC scope cl C X.env) fp)
theorem x_lcA (fx : Fx gb X G W k) (hN : X.N.Nodup) (hi : PE X iter (rd G W fi)) (ok : BlkOk X.N X.env.scope scope own) (hgg : Bk gb X G k scope fun Y => PG Y tg gt) (hg : TgLc G gt put (own.map (·.2))) (ht : Bk gb X G k scope fun Y => PTs Y ifs (rdT G WN tf)) (he : Bk gb X G k scope fun Y => PE Y elt (rd G WN f))
    (hs : ∀ x, foldedSetIterable iter X.env x = pure x := by intro _; rfl) : PE X (.ListComp elt [⟨tg, iter, ifs, 0⟩] scope pos) (rd G W (eLc anyD fi put (own.map (·.2)) tf f)) :=
  PE.to (PE.or (d_lcL fx.hK (pe_lc fx.calm hN (pi_list hi) ok (fun s H C cl fp => hgg s H C cl fp (fx.blk ..)) (fun s H C cl fp => ht s H C cl fp (fx.blk ..)) (fun s H C cl fp => he s H C cl fp (fx.blk ..)) hs) hg)
    (d_lcT fx.hK (pe_lc fx.calm hN (pi_tup hi) ok (fun s H C cl fp => hgg s H C cl fp (fx.blk ..)) (fun s H C cl fp => ht s H C cl fp (fx.blk ..)) (fun s H C cl fp => he s H C cl fp (fx.blk ..)) hs) hg)) fun _ _ _ q => eLc_or q
theorem x_lcR1 {p p2 : Pos} (fx : Fx gb X G W k) (hN : X.N.Nodup) (hgl : Gl X "range") (hm : X.mg "range" = none) (ha : PA X [a] (rdA G W ag)) (ok : BlkOk X.N X.env.scope scope own) (hgg : Bk gb X G k scope fun Y => PG Y tg gt) (hg : TgLc G gt put (own.map (·.2))) (ht : Bk gb X G k scope fun Y => PTs Y ifs (rdT G WN tf)) (he : Bk gb X G k scope fun Y => PE Y elt (rd G WN f))
    (hst : starEach [a] X.env = [(false, eval a X.env)] := by rfl) (hs : ∀ x, foldedSetIterable (.Call (.Name "range" p) [a] [] p2) X.env x = pure x := by intro _; rfl) : PE X (.ListComp elt [⟨tg, .Call (.Name "range" p) [a] [] p2, ifs, 0⟩] scope pos) (rd G W (eLcR rng1 ag put (own.map (·.2)) tf f)) :=
  d_lcR1 (pe_lc fx.calm hN (pi_range1 hgl hm ha hst) ok (fun s H C cl fp => hgg s H C cl fp (fx.blk ..)) (fun s H C cl fp => ht s H C cl fp (fx.blk ..)) (fun s H C cl fp => he s H C cl fp (fx.blk ..)) hs) hg
theorem x_lcR2 {p p2 : Pos} (fx : Fx gb X G W k) (hN : X.N.Nodup) (hgl : Gl X "range") (hm : X.mg "range" = none) (ha : PA X [a, b] (rdA G W ag)) (ok : BlkOk X.N X.env.scope scope own) (hgg : Bk gb X G k scope fun Y => PG Y tg gt) (hg : TgLc G gt put (own.map (·.2))) (ht : Bk gb X G k scope fun Y => PTs Y ifs (rdT G WN tf)) (he : Bk gb X G k scope fun Y => PE Y elt (rd G WN f))
    (hst : starEach [a, b] X.env = [(false, eval a X.env), (false, eval b X.env)] := by rfl) (hst2 : starEach [b] X.env = [(false, eval b X.env)] := by rfl) (hs : ∀ x, foldedSetIterable (.Call (.Name "range" p) [a, b] [] p2) X.env x = pure x := by intro _; rfl) : PE X (.ListComp elt [⟨tg, .Call (.Name "range" p) [a, b] [] p2, ifs, 0⟩] scope pos) (rd G W (eLcR rng2 ag put (own.map (·.2)) tf f)) :=
  d_lcR2 (pe_lc fx.calm hN (pi_range2 hgl hm ha hst hst2) ok (fun s H C cl fp => hgg s H C cl fp (fx.blk ..)) (fun s H C cl fp => ht s H C cl fp (fx.blk ..)) (fun s H C cl fp => he s H C cl fp (fx.blk ..)) hs) hg
end
/-! own defs -/
structure CalM (gb : Bool) (P : Program) (w : World) (G : Cl) (mg : Str → Option Value) (base : Heap) (k : Nat) (x : Str) (st : Stmt) (ps : List Str) (fm : FM) : Prop where
  ex : ∃ (f : Addr) (fd : FuncData), FunD G.K x x (defArgs st) (defBody st) (defScope st) [] [] f fd ∧ FnC gb P w G.K mg base (L2.CX P w) k f fd ps (spF G ps.length fm) ∧ mg x = some (.ref f) ∧ Binds G.K fd ps []
def aLen (n : Nat) (ag : AM) : AM := fun rho => M.bind (ag rho) fun ds => if ds.length = n then M.pure ds else M.no
theorem a_len (n : Nat) (ha : PA X es (rdA G W ag)) : PA X es (rdA G W (aLen n ag)) := PA.to ha fun σ H Q ⟨am, e0, rho, mu, F, s, o, mu', e, kk⟩ => by
  refine rdA_then s e (KoA.x kk) fun ds m1 vs H1 F1 e1 q s1 r => ?_
  by_cases h : ds.length = n
  · rw [if_pos h] at e1
    cases e1
    exact kk vs H1 F1 q r
  · rw [if_neg h] at e1
    cases e1
theorem aLen_len {n : Nat} {rho : List Slot} {mu m : Mu} {ds : List D} (h : aLen n ag rho mu = some (.ok ds, m)) : ds.length = n := by
  unfold aLen M.bind at h
  cases e : ag rho mu with
  | none => rw [e] at h; cases h
  | some z =>
    obtain ⟨o, m1⟩ := z
    rw [e] at h
    cases o with
    | ex c cs => cases h
    | ok d =>
      simp only at h
      by_cases hl : d.length = n
      · rw [if_pos hl] at h
        cases h
        exact hl
      · rw [if_neg hl] at h
        cases h
theorem Qt.le {g g' : Bool} {A : Around} (h : Qt g A) (hg : g' = true → g = true) : Qt g' A := fun z => h (hg z)
theorem q_call {g' : Bool} {n j : Nat} {fm : FM} {p : Pos} {sd : Stmt} {ps : List Str} (hn : ps.length = n) (fx : Fx gb X G W k) (h : CalM g' X.prog X.w G X.mg X.base j x sd ps fm) (hg' : g' = true → gb = true) (hj : j ≤ k) (hg : Gl X x) (hd : (x == ("__debug__" : Str)) = false)
    (he : starEach (e :: es) X.env = (false, eval e X.env) :: starEach es X.env) (hpl : (backTo pos (starEach es X.env)).any (·.1) = false) (ha : PA X (e :: es) (rdA G W ag)) : PE X (.Call (.Name x p) (e :: es) [] pos) (rd G W (eOwn fm (aLen n ag))) := by
  subst hn
  obtain ⟨f, fd, U, F, hm, hb⟩ := h.ex
  have hk := U.kp
  rw [← fx.hK] at F hk hb
  exact d_own (E := WE W) (fun _ _ _ _ => rfl) (pe_callC (F.mono hj) (fx.gd.le hg') fx.hr hg hm hk hb (fun σ => passAt fx.tk σ) hd he hpl (a_len _ ha)) fun _ _ _ _ z => aLen_len z
/-- a def of the text, with its name -/
structure DefM (G : Cl) (mg : Str → Option Value) (x : Str) (st : Stmt) (ps : List Str) : Prop where
  ex : ∃ (f : Addr) (fd : FuncData), FunD G.K x x (defArgs st) (defBody st) (defScope st) [] [] f fd ∧ mg x = some (.ref f) ∧ Binds G.K fd ps []
theorem calM_of {P : Program} {w : World} {mg : Str → Option Value} {base : Heap} {x : Str} {st : Stmt} {N ps : List Str} {k : Nat} {sf : SM} {fm : FM} (Dm : DefM G mg x st ps) (S : FnScope N ps (defScope st)) (hfm : ∀ ds mu, fm ds mu = fnM N.length sf ds mu)
    (hbody : ∀ (f : Addr) (cdv : Value) (A : Around) (outer : List Env) (s : Shared) (H : Hp) (E : XK), Fx gb (cxOf (L2.CX P w) P w G.K mg base N x (defScope st) f cdv A outer s H E) G (fun cls d _ H' => E cls d H') k →
      PSs (cxOf (L2.CX P w) P w G.K mg base N x (defScope st) f cdv A outer s H E) (defBody st) (rdS G (fun cls d _ H' => E cls d H') sf)) : CalM gb P w G mg base (k + 1) x st ps fm := by
  obtain ⟨f, fd, F, hm, hb⟩ := Dm.ex
  refine ⟨f, fd, F, ?_, hm, hb⟩
  refine fnC_by F S (fun vs H Q E h => spF_len h) fun cdv A outer s H vs Q E q hr h => ?_
  exact ⟨_, hbody f cdv A outer s H E ⟨⟨rfl, takes_of rfl rfl rfl rfl, passes_of rfl⟩, q, hr, rfl⟩, body_to hfm h⟩
theorem CalM.mono {P : Program} {w : World} {mg : Str → Option Value} {base : Heap} {x : Str} {st : Stmt} {ps : List Str} {i j : Nat} {fm : FM} (h : CalM gb P w G mg base i x st ps fm) (hij : i ≤ j) : CalM gb P w G mg base j x st ps fm := by
  obtain ⟨f, fd, U, F, r⟩ := h.ex
  exact ⟨f, fd, U, F.mono hij, r⟩
end
end Mi
end
section
set_option Elab.async false
set_option linter.all false
set_option maxRecDepth 100000
set_option maxHeartbeats 4000000
namespace Mi
open PySem PySem.Spec PyProof.Rows L2
open Evl (Ex)

/-! ### assignments -/
section
variable {gb : Bool} {X : Cx} {G : Cl} {W : WX} {k : Nat} {pos : Pos} {a b c e : Expr} {f g h : EM} {x : Str} {ag : AM} {es : List Expr} {tf : BM} {st : Stmt}
/-- names that take the items of a sequence, one behind another -/
def putAll : List Nat → List D → List Slot → Option (List Slot)
  | [], [], rho => some rho
  | i :: is, d :: ds, rho => putAll is ds (rho.set i (.va d))
  | _, _, _ => none
def gAll : List Nat → TGs
  | [] => gNil
  | i :: is => gCons (gName i) (gAll is)
theorem all_ok {am : Addr} {e0 : En} {mu : Mu} {H F : Hp} {Q : L2.St → Hp → Prop} : ∀ {is : List Nat} {ds : List D} {vs : List V} {rho rho' : List Slot} {σ : L2.St}, Sta G am e0 rho mu σ H F → RpAll G F am vs ds → putAll is ds rho = some rho' → (∀ σ', Sta G am e0 rho' mu σ' H F → Q σ' H) → gAll is vs σ H Q
  | [], [], _, _, _, _, s, .nil, e, k => by
    cases e
    exact ⟨rfl, k _ s⟩
  | [], _ :: _, _, _, _, _, _, _, e, _ => by cases e
  | _ :: _, [], _, _, _, _, _, _, e, _ => by cases e
  | i :: is, d :: ds, _, _, _, _, s, .cons r ra, e, k => ⟨_, _, rfl, all_ok (s.set r) ra e k⟩
def putT (is : List Nat) : D → List Slot → Option (List Slot)
  | .tup ds, rho => putAll is ds rho
  | _, _ => none
def putL (is : List Nat) : D → List Slot → Option (List Slot)
  | .lst ds, rho => putAll is ds rho
  | _, _ => none
def putS (is : List Nat) : D → List Slot → Option (List Slot)
  | .tup ds, rho => putAll is ds rho
  | .lst ds, rho => putAll is ds rho
  | _, _ => none
theorem putAll_len : ∀ {is : List Nat} {ds : List D} {rho rho' : List Slot}, putAll is ds rho = some rho' → ds.length = is.length
  | [], [], _, _, _ => rfl
  | [], _ :: _, _, _, e => by cases e
  | _ :: _, [], _, _, e => by cases e
  | _ :: is, _ :: ds, _, _, e => congrArg (· + 1) (putAll_len (is := is) (ds := ds) e)
theorem tg_tup {is : List Nat} {n : Nat} (hn : is.length = n) (fx : Fx0 X G W) : TgOk G (gTup X.K n (gAll is)) (putT is) := by
  intro am e0 rho rho' mu σ H F v d Q s r e kk
  cases r with
  | tup h1 r1 =>
    refine ⟨_, _, rfl, ?_, ?_, all_ok s r1 e kk⟩
    · rw [fx.hK]
      exact Evl.ex_t s.sub h1
    · rw [r1.length, putAll_len e, hn]
  | _ => cases e
theorem tg_unl {is : List Nat} {n : Nat} (hn : is.length = n) (fx : Fx0 X G W) : TgOk G (gUnl X.K n (gAll is)) (putL is) := by
  intro am e0 rho rho' mu σ H F v d Q s r e kk
  cases r with
  | lst h1 r1 =>
    refine ⟨_, _, rfl, ?_, ?_, all_ok s r1 e kk⟩
    · rw [fx.hK]
      exact Evl.ex_l s.sub (Evl.sq_of h1)
    · rw [r1.length, putAll_len e, hn]
  | _ => cases e
def sPut (put : D → List Slot → Option (List Slot)) (f : EM) : SM := sWith f fun v rho m => match put v.d rho with
  | some rho' => some (.fl .nx rho', m)
  | none => none
theorem s_put {gt : TG} {put : D → List Slot → Option (List Slot)} (h : PS X st (tAsg (rd G W f) gt)) (hg : TgOk G gt put) : PS X st (rdS G W (sPut put f)) := by
  refine PS.to h fun Dn σ H ⟨am, e0, rho, mu, F, s, r, mu', e, kk⟩ => ?_
  refine with_use s e kk fun vl m1 v H1 F1 e1 q s1 rv k1 => ?_
  cases e2 : put vl.d rho with
  | none => rw [e2] at e1; cases e1
  | some rho' =>
    rw [e2] at e1
    cases e1
    exact hg am e0 rho rho' mu' σ H1 F1 v vl.d Dn.nx s1 rv e2 fun σ' s' => k1 σ' H1 F1 (Ex.refl F1) s'
theorem put_or {is : List Nat} {Dn : Ends} {σ : L2.St} {H : Hp} (q : rdS G W (sPut (putS is) f) Dn σ H) : rdS G W (sPut (putT is) f) Dn σ H ∨ rdS G W (sPut (putL is) f) Dn σ H := by
  obtain ⟨am, e0, rho, mu, F, s, r, mu', e, kk⟩ := q
  unfold sPut sWith at e
  cases e1 : f rho mu with
  | none => rw [e1] at e; cases e
  | some z =>
    obtain ⟨o1, m1⟩ := z
    rw [e1] at e
    cases o1 with
    | ex c ds => exact .inl ⟨am, e0, rho, mu, F, s, r, mu', by unfold sPut sWith; rw [e1]; exact e, kk⟩
    | ok vl =>
      simp only at e
      cases hd : vl.d with
      | tup ds => exact .inl ⟨am, e0, rho, mu, F, s, r, mu', by unfold sPut sWith; rw [e1]; simp only [hd] at e ⊢; exact e, kk⟩
      | lst ds => exact .inr ⟨am, e0, rho, mu, F, s, r, mu', by unfold sPut sWith; rw [e1]; simp only [hd] at e ⊢; exact e, kk⟩
      | _ =>
        rw [hd] at e
        cases e
theorem z_unp {es : List Expr} {kt : Nat} {pt : Pos} {is : List Nat} {n : Nat} (hn : is.length = n) (fx : Fx gb X G W k) (he : PE X e (rd G W f)) (hgs : PGs X es (gAll is)) (hm : (assignEach es X.env).length = n := by rfl) (hst : (assignEach es X.env).findIdx? (·.1) = none := by rfl)
    (hs : swapsWithSole [.Tuple es kt pt] e pos.line X.env = pure false := by rfl) (hw : swappedStores [.Tuple es kt pt] e X.env = pure none := by rfl)
    (h1 : (assignEach [.Tuple es kt pt] X.env).map (·.2) = [assign (.Tuple es kt pt) X.env] := by rfl) : PS X (.Assign [.Tuple es kt pt] e pos) (rdS G W (sPut (putS is) f)) :=
  PS.to (PS.or (s_put (ps_asg he (pg_tup fx.calm hgs hm hst) hs hw h1) (tg_tup hn fx.toFx0)) (s_put (ps_asg he (pg_unl fx.calm hgs hm hst) hs hw h1) (tg_unl hn fx.toFx0))) fun _ _ _ q => put_or q
/-! a, b = x, y -/
def sPar (i j : Nat) (f : AM) : SM := sWith f fun ds rho m => match ds with
  | [d, d'] => some (.fl .nx ((rho.set i (.va d)).set j (.va d')), m)
  | _ => none
theorem s_par {i j : Nat} (h : PS X st (tPar i j (rdA G W ag))) : PS X st (rdS G W (sPar i j ag)) := by
  refine PS.to h fun Dn σ H ⟨am, e0, rho, mu, F, s, r, mu', e, kk⟩ => ?_
  refine with_useA s e kk fun ds m1 vs H1 F1 e1 q s1 rv k1 => ?_
  cases rv with
  | nil => cases e1
  | cons r1 rv =>
    cases rv with
    | nil => cases e1
    | cons r2 rv =>
      cases rv with
      | nil =>
        cases e1
        exact ⟨_, _, rfl, k1 _ H1 F1 (Ex.refl F1) ((s1.set r1).set r2)⟩
      | cons _ _ => cases e1
def sPar3 (i j l : Nat) (f : AM) : SM := sWith f fun ds rho m => match ds with
  | [d, d', d''] => some (.fl .nx (((rho.set i (.va d)).set j (.va d')).set l (.va d'')), m)
  | _ => none
/-! name = [.. for ..] -/
section
variable {elt tg iter : Expr} {ifs : List Expr} {scope : Scope} {own : List (Str × Nat)} {gt : TG} {put : D → List Slot → Option (List Slot)} {fi : EM} {y : Str} {py spos : Pos} {i : Nat}
theorem asg_lc {wi wi' : TE} (h : PS X st (fun Dn σ H => tAsg wi (gName i) Dn σ H ∨ tAsg wi' (gName i) Dn σ H)) (hh : ∀ σ H Q, rd G W f σ H Q → wi σ H Q ∨ wi' σ H Q) : PS X st (tAsg (rd G W f) (gName i)) :=
  PS.to h fun Dn σ H q => hh σ H _ q
theorem z_lcA (fx : Fx gb X G W k) (hN : X.N.Nodup) (hy : X.N[i]? = some y) (hyl : X.env.scope.names.lookup y = some .local) (hsw : swapsWith (.ListComp elt [⟨tg, iter, ifs, 0⟩] scope pos) (some (.Name y py)) spos.line X.env = pure true)
    (hi : PE X iter (rd G W fi)) (ok : BlkOk X.N X.env.scope scope own) (hgg : Bk gb X G k scope fun Y => PG Y tg gt) (hg : TgLc G gt put (own.map (·.2))) (ht : Bk gb X G k scope fun Y => PTs Y ifs (rdT G WN tf)) (he : Bk gb X G k scope fun Y => PE Y elt (rd G WN f))
    (hs : ∀ x, foldedSetIterable iter X.env x = pure x := by intro _; rfl) : PS X (.Assign [.Name y py] (.ListComp elt [⟨tg, iter, ifs, 0⟩] scope pos) spos) (tAsg (rd G W (eLc anyD fi put (own.map (·.2)) tf f)) (gName i)) := by
  refine asg_lc (PS.or (ps_setLc fx.calm hN hy hyl hsw (pi_list hi) ok (fun s H C cl fp => hgg s H C cl fp (fx.blk ..)) (fun s H C cl fp => ht s H C cl fp (fx.blk ..)) (fun s H C cl fp => he s H C cl fp (fx.blk ..)) hs)
    (ps_setLc fx.calm hN hy hyl hsw (pi_tup hi) ok (fun s H C cl fp => hgg s H C cl fp (fx.blk ..)) (fun s H C cl fp => ht s H C cl fp (fx.blk ..)) (fun s H C cl fp => he s H C cl fp (fx.blk ..)) hs)) fun σ H Q q => ?_
  exact (eLc_or q).imp (fun q => lcL_to (X := X) fx.hK hg q) fun q => lcT_to (X := X) fx.hK hg q
theorem z_lcR1 {p p2 : Pos} (fx : Fx gb X G W k) (hN : X.N.Nodup) (hy : X.N[i]? = some y) (hyl : X.env.scope.names.lookup y = some .local) (hsw : swapsWith (.ListComp elt [⟨tg, .Call (.Name "range" p) [a] [] p2, ifs, 0⟩] scope pos) (some (.Name y py)) spos.line X.env = pure true)
    (hgl : Gl X "range") (hm : X.mg "range" = none) (ha : PA X [a] (rdA G W ag)) (ok : BlkOk X.N X.env.scope scope own) (hgg : Bk gb X G k scope fun Y => PG Y tg gt) (hg : TgLc G gt put (own.map (·.2))) (ht : Bk gb X G k scope fun Y => PTs Y ifs (rdT G WN tf)) (he : Bk gb X G k scope fun Y => PE Y elt (rd G WN f))
    (hst : starEach [a] X.env = [(false, eval a X.env)] := by rfl) (hs : ∀ x, foldedSetIterable (.Call (.Name "range" p) [a] [] p2) X.env x = pure x := by intro _; rfl) : PS X (.Assign [.Name y py] (.ListComp elt [⟨tg, .Call (.Name "range" p) [a] [] p2, ifs, 0⟩] scope pos) spos) (tAsg (rd G W (eLcR rng1 ag put (own.map (·.2)) tf f)) (gName i)) :=
  PS.to (ps_setLc fx.calm hN hy hyl hsw (pi_range1 hgl hm ha hst) ok (fun s H C cl fp => hgg s H C cl fp (fx.blk ..)) (fun s H C cl fp => ht s H C cl fp (fx.blk ..)) (fun s H C cl fp => he s H C cl fp (fx.blk ..)) hs) fun _ _ _ q => lcR1_to hg q
theorem z_lcR2 {p p2 : Pos} (fx : Fx gb X G W k) (hN : X.N.Nodup) (hy : X.N[i]? = some y) (hyl : X.env.scope.names.lookup y = some .local) (hsw : swapsWith (.ListComp elt [⟨tg, .Call (.Name "range" p) [a, b] [] p2, ifs, 0⟩] scope pos) (some (.Name y py)) spos.line X.env = pure true)
    (hgl : Gl X "range") (hm : X.mg "range" = none) (ha : PA X [a, b] (rdA G W ag)) (ok : BlkOk X.N X.env.scope scope own) (hgg : Bk gb X G k scope fun Y => PG Y tg gt) (hg : TgLc G gt put (own.map (·.2))) (ht : Bk gb X G k scope fun Y => PTs Y ifs (rdT G WN tf)) (he : Bk gb X G k scope fun Y => PE Y elt (rd G WN f))
    (hst : starEach [a, b] X.env = [(false, eval a X.env), (false, eval b X.env)] := by rfl) (hst2 : starEach [b] X.env = [(false, eval b X.env)] := by rfl) (hs : ∀ x, foldedSetIterable (.Call (.Name "range" p) [a, b] [] p2) X.env x = pure x := by intro _; rfl) : PS X (.Assign [.Name y py] (.ListComp elt [⟨tg, .Call (.Name "range" p) [a, b] [] p2, ifs, 0⟩] scope pos) spos) (tAsg (rd G W (eLcR rng2 ag put (own.map (·.2)) tf f)) (gName i)) :=
  PS.to (ps_setLc fx.calm hN hy hyl hsw (pi_range2 hgl hm ha hst hst2) ok (fun s H C cl fp => hgg s H C cl fp (fx.blk ..)) (fun s H C cl fp => ht s H C cl fp (fx.blk ..)) (fun s H C cl fp => he s H C cl fp (fx.blk ..)) hs) fun _ _ _ q => lcR2_to hg q
end
end
end Mi
end
section
set_option Elab.async false
set_option linter.all false
set_option maxRecDepth 100000
set_option maxHeartbeats 4000000
namespace Mi
open PySem PySem.Spec PyProof.Rows L2
open Evl (Ex)

section
variable {gb : Bool} {X : Cx} {G : Cl} {W : WX} {k : Nat} {pos : Pos} {a b c e : Expr} {f g h : EM} {x : Str} {ag : AM} {es : List Expr} {tf : BM} {st : Stmt}
theorem x_chain {op op' : CmpOp} {m m' : D → D → Option Vl} (fx : Fx0 X G W) (ho : CpOk X G op m) (ho' : CpOk X G op' m') (ha : PE X a (rd G W f)) (hb : PE X b (rd G W g)) (hc : PE X c (rd G W h)) (hm : lastMarks [op, op'] [b, c] = false) : PE X (.Compare a [op, op'] [b, c] pos) (rd G W (eChain m m' f g h)) := by
  obtain ⟨r, h1, h2⟩ := ho.ex
  obtain ⟨r', h1', h2'⟩ := ho'.ex
  exact d_chain h1 h2 h1' h2' ha hb hc hm
theorem y_chain {op op' : CmpOp} {m m' : D → D → Option Vl} (fx : Fx0 X G W) (ho : CpOk X G op m) (ho' : CpOk X G op' m') (ha : PE X a (rd G W f)) (hb : PE X b (rd G W g)) (hc : PE X c (rd G W h)) (hm : lastMarks [op, op'] [b, c] = false) : PT X (.Compare a [op, op'] [b, c] pos) (rdT G W (bOf (eChain m m' f g h))) := by
  obtain ⟨r, h1, h2⟩ := ho.ex
  obtain ⟨r', h1', h2'⟩ := ho'.ex
  exact t_chain h1 h2 h1' h2' ha hb hc hm
theorem ts_one (h : PT X c (rdT G W tf)) : PTs X [c] (rdT G W tf) := pts_one h
theorem s_doc {x j pos pos'} : PS X (.Expr (.Constant (.str x) j pos) pos') (rdS G W sPass) := by
  refine PS.to ps_doc fun Dn σ H ⟨am, e0, rho, mu, F, s, r, mu', e, k⟩ => ?_
  cases e
  exact k σ H F (Ex.refl F) s
/-- a global number -/
structure GloI (mg : Str → Option Value) (x : Str) (i : Int) : Prop where
  ex : ∃ t, mg x = some (.int i t)
theorem d_glo {i : Int} (hg : Gl X x) (h : GloI X.mg x i) (hd : (x == ("__debug__" : Str)) = false := by decide) : PE X (.Name x pos) (rd G W (eC (.int i))) := by
  obtain ⟨t, ht⟩ := h.ex
  exact d_c (pe_glob hg ht (show RelV (.int i) (.int i t) from ⟨t, rfl⟩) hd) fun _ _ => .int i
/-! the rules with all that is looked up by evaluation as arguments -/
theorem q_bi {m : List D → Option Vl} {p : Pos} (fx : Fx0 X G W) (h : BiOk X G x m) (hg : Gl X x) (hn : x ≠ "__name__") (hd : (x == ("__debug__" : Str)) = false) (he : starEach (e :: es) X.env = (false, eval e X.env) :: starEach es X.env) (hpl : (backTo pos (starEach es X.env)).any (·.1) = false) (ha : PA X (e :: es) (rdA G W ag)) :
    PE X (.Call (.Name x p) (e :: es) [] pos) (rd G W (eCall m ag)) := x_bi fx h hg ha hn hd he hpl
theorem q_cons (hs : starEach (a :: es) X.env = (false, eval a X.env) :: starEach es X.env) (ha : PE X a (rd G W f)) (hr : PA X es (rdA G W ag)) : PA X (a :: es) (rdA G W (aCons f ag)) := a_cons ha hr hs
theorem q_var (i : Nat) (hN : X.N[i]? = some x) (hv : Vis X.env.scope x) (hd : (x == ("__debug__" : Str)) = false) (hcd : (x == ("__classdict__" : Str)) = false) : PE X (.Name x pos) (rd G W (eVar i)) := d_var i (pe_var hN hv hd hcd)
section
variable {elt tg iter : Expr} {ifs : List Expr} {scope : Scope} {own : List (Str × Nat)} {gt : TG} {put : D → List Slot → Option (List Slot)} {fi : EM} {y : Str} {py spos : Pos} {i : Nat}
theorem q_lcA (own : List (Str × Nat)) (fx : Fx gb X G W k) (hN : X.N.Nodup) (hs : ∀ x, foldedSetIterable iter X.env x = pure x) (ok : blkC X.N X.env.scope scope own = true) (hi : PE X iter (rd G W fi)) (hgg : Bk gb X G k scope fun Y => PG Y tg gt) (hg : TgLc G gt put (own.map (·.2))) (ht : Bk gb X G k scope fun Y => PTs Y ifs (rdT G WN tf)) (he : Bk gb X G k scope fun Y => PE Y elt (rd G WN f)) :
    PE X (.ListComp elt [⟨tg, iter, ifs, 0⟩] scope pos) (rd G W (eLc anyD fi put (own.map (·.2)) tf f)) := x_lcA fx hN hi (blkOk_by ok) hgg hg ht he hs
theorem q_lcR1 {p p2 : Pos} (own : List (Str × Nat)) (fx : Fx gb X G W k) (hN : X.N.Nodup) (hgl : Gl X "range") (hm : X.mg "range" = none) (hst : starEach [a] X.env = [(false, eval a X.env)]) (hs : ∀ x, foldedSetIterable (.Call (.Name "range" p) [a] [] p2) X.env x = pure x) (ok : blkC X.N X.env.scope scope own = true) (ha : PA X [a] (rdA G W ag)) (hgg : Bk gb X G k scope fun Y => PG Y tg gt) (hg : TgLc G gt put (own.map (·.2))) (ht : Bk gb X G k scope fun Y => PTs Y ifs (rdT G WN tf)) (he : Bk gb X G k scope fun Y => PE Y elt (rd G WN f)) :
    PE X (.ListComp elt [⟨tg, .Call (.Name "range" p) [a] [] p2, ifs, 0⟩] scope pos) (rd G W (eLcR rng1 ag put (own.map (·.2)) tf f)) := x_lcR1 fx hN hgl hm ha (blkOk_by ok) hgg hg ht he hst hs
theorem q_lcR2 {p p2 : Pos} (own : List (Str × Nat)) (fx : Fx gb X G W k) (hN : X.N.Nodup) (hgl : Gl X "range") (hm : X.mg "range" = none) (hst : starEach [a, b] X.env = [(false, eval a X.env), (false, eval b X.env)]) (hst2 : starEach [b] X.env = [(false, eval b X.env)]) (hs : ∀ x, foldedSetIterable (.Call (.Name "range" p) [a, b] [] p2) X.env x = pure x) (ok : blkC X.N X.env.scope scope own = true) (ha : PA X [a, b] (rdA G W ag)) (hgg : Bk gb X G k scope fun Y => PG Y tg gt) (hg : TgLc G gt put (own.map (·.2))) (ht : Bk gb X G k scope fun Y => PTs Y ifs (rdT G WN tf)) (he : Bk gb X G k scope fun Y => PE Y elt (rd G WN f)) :
    PE X (.ListComp elt [⟨tg, .Call (.Name "range" p) [a, b] [] p2, ifs, 0⟩] scope pos) (rd G W (eLcR rng2 ag put (own.map (·.2)) tf f)) := x_lcR2 fx hN hgl hm ha (blkOk_by ok) hgg hg ht he hst hst2 hs
theorem r_lcA (own : List (Str × Nat)) (fx : Fx gb X G W k) (hN : X.N.Nodup) (hy : X.N[i]? = some y) (hyl : X.env.scope.names.lookup y = some .local) (hsw : swapsWith (.ListComp elt [⟨tg, iter, ifs, 0⟩] scope pos) (some (.Name y py)) spos.line X.env = pure true) (hs : ∀ x, foldedSetIterable iter X.env x = pure x) (ok : blkC X.N X.env.scope scope own = true)
    (hi : PE X iter (rd G W fi)) (hgg : Bk gb X G k scope fun Y => PG Y tg gt) (hg : TgLc G gt put (own.map (·.2))) (ht : Bk gb X G k scope fun Y => PTs Y ifs (rdT G WN tf)) (he : Bk gb X G k scope fun Y => PE Y elt (rd G WN f)) :
    PS X (.Assign [.Name y py] (.ListComp elt [⟨tg, iter, ifs, 0⟩] scope pos) spos) (tAsg (rd G W (eLc anyD fi put (own.map (·.2)) tf f)) (gName i)) := z_lcA fx hN hy hyl hsw hi (blkOk_by ok) hgg hg ht he hs
theorem r_lcR1 {p p2 : Pos} (own : List (Str × Nat)) (fx : Fx gb X G W k) (hN : X.N.Nodup) (hy : X.N[i]? = some y) (hyl : X.env.scope.names.lookup y = some .local) (hsw : swapsWith (.ListComp elt [⟨tg, .Call (.Name "range" p) [a] [] p2, ifs, 0⟩] scope pos) (some (.Name y py)) spos.line X.env = pure true)
    (hgl : Gl X "range") (hm : X.mg "range" = none) (hst : starEach [a] X.env = [(false, eval a X.env)]) (hs : ∀ x, foldedSetIterable (.Call (.Name "range" p) [a] [] p2) X.env x = pure x) (ok : blkC X.N X.env.scope scope own = true) (ha : PA X [a] (rdA G W ag)) (hgg : Bk gb X G k scope fun Y => PG Y tg gt) (hg : TgLc G gt put (own.map (·.2))) (ht : Bk gb X G k scope fun Y => PTs Y ifs (rdT G WN tf)) (he : Bk gb X G k scope fun Y => PE Y elt (rd G WN f)) :
    PS X (.Assign [.Name y py] (.ListComp elt [⟨tg, .Call (.Name "range" p) [a] [] p2, ifs, 0⟩] scope pos) spos) (tAsg (rd G W (eLcR rng1 ag put (own.map (·.2)) tf f)) (gName i)) := z_lcR1 fx hN hy hyl hsw hgl hm ha (blkOk_by ok) hgg hg ht he hst hs
theorem r_lcR2 {p p2 : Pos} (own : List (Str × Nat)) (fx : Fx gb X G W k) (hN : X.N.Nodup) (hy : X.N[i]? = some y) (hyl : X.env.scope.names.lookup y = some .local) (hsw : swapsWith (.ListComp elt [⟨tg, .Call (.Name "range" p) [a, b] [] p2, ifs, 0⟩] scope pos) (some (.Name y py)) spos.line X.env = pure true)
    (hgl : Gl X "range") (hm : X.mg "range" = none) (hst : starEach [a, b] X.env = [(false, eval a X.env), (false, eval b X.env)]) (hst2 : starEach [b] X.env = [(false, eval b X.env)]) (hs : ∀ x, foldedSetIterable (.Call (.Name "range" p) [a, b] [] p2) X.env x = pure x) (ok : blkC X.N X.env.scope scope own = true) (ha : PA X [a, b] (rdA G W ag)) (hgg : Bk gb X G k scope fun Y => PG Y tg gt) (hg : TgLc G gt put (own.map (·.2))) (ht : Bk gb X G k scope fun Y => PTs Y ifs (rdT G WN tf)) (he : Bk gb X G k scope fun Y => PE Y elt (rd G WN f)) :
    PS X (.Assign [.Name y py] (.ListComp elt [⟨tg, .Call (.Name "range" p) [a, b] [] p2, ifs, 0⟩] scope pos) spos) (tAsg (rd G W (eLcR rng2 ag put (own.map (·.2)) tf f)) (gName i)) := z_lcR2 fx hN hy hyl hsw hgl hm ha (blkOk_by ok) hgg hg ht he hst hst2 hs
theorem q_name (i : Nat) (hN : X.N.Nodup) (hi : X.N[i]? = some x) (hx : Loc X.env.scope x) (hf : X.fn x = true ∨ X.env.scope.names.lookup x = some .local) : PG X (.Name x pos) (gName i) := pg_name hN hi hx hf
theorem q_set (i : Nat) (hN : X.N.Nodup) (hi : X.N[i]? = some y) (hx : Loc X.env.scope y) (hs : swapsWith e (some (.Name y py)) pos.line X.env = pure false) (hf : X.fn y = true ∨ X.env.scope.names.lookup y = some .local) (he : PE X e (rd G W f)) : PS X (.Assign [.Name y py] e pos) (tAsg (rd G W f) (gName i)) := ps_set hN hi hx he hs hf
theorem q_asg {te : TE} (hs : swapsWithSole [tg] e pos.line X.env = pure false) (hw : swappedStores [tg] e X.env = pure none) (h1 : (assignEach [tg] X.env).map (·.2) = [assign tg X.env]) (he : PE X e te) (hg : PG X tg gt) : PS X (.Assign [tg] e pos) (tAsg te gt) := ps_asg he hg hs hw h1
theorem q_unp {es : List Expr} {kt : Nat} {pt : Pos} (is : List Nat) {n : Nat} (hn : is.length = n) (fx : Fx gb X G W k) (hm : (assignEach es X.env).length = n) (hst : (assignEach es X.env).findIdx? (·.1) = none)
    (hs : swapsWithSole [.Tuple es kt pt] e pos.line X.env = pure false) (hw : swappedStores [.Tuple es kt pt] e X.env = pure none) (h1 : (assignEach [.Tuple es kt pt] X.env).map (·.2) = [assign (.Tuple es kt pt) X.env]) (he : PE X e (rd G W f)) (hgs : PGs X es (gAll is)) :
    PS X (.Assign [.Tuple es kt pt] e pos) (rdS G W (sPut (putS is) f)) := z_unp hn fx he hgs hm hst hs hw h1
theorem q_gcons {t : TG} {u : TGs} (hs : (assignEach (e :: es) X.env).map (·.2) = assign e X.env :: (assignEach es X.env).map (·.2)) (h1 : PG X e t) (h2 : PGs X es u) : PGs X (e :: es) (gCons t u) := pgs_cons h1 h2 hs
theorem q_tup {es : List Expr} {kk : Nat} {t : TGs} {n : Nat} (fx : Fx gb X G W k) (hn : (assignEach es X.env).length = n) (hst : (assignEach es X.env).findIdx? (·.1) = none) (h : PGs X es t) : PG X (.Tuple es kk pos) (gTup X.K n t) := pg_tup fx.calm h hn hst
theorem q_forA {body : List Stmt} {sf : SM} (fx : Fx gb X G W k) (hs : ∀ x, foldedSetIterable iter X.env x = pure x) (hi : PE X iter (rd G W f)) (hgg : PG X tg gt) (hg : TgOk G gt put) (hb : PSs X body (rdS G W sf)) : PS X (.For tg iter body [] pos) (rdS G W (sFor anyD f (sBody put sf))) := z_forA fx hi hgg hg hb hs
theorem q_forR1 {p p2 : Pos} {body : List Stmt} {sf : SM} (fx : Fx gb X G W k) (hgl : Gl X "range") (hm : X.mg "range" = none) (hst : starEach [a] X.env = [(false, eval a X.env)]) (hs : ∀ x, foldedSetIterable (.Call (.Name "range" p) [a] [] p2) X.env x = pure x) (ha : PA X [a] (rdA G W ag)) (hgg : PG X tg gt) (hg : TgOk G gt put) (hb : PSs X body (rdS G W sf)) :
    PS X (.For tg (.Call (.Name "range" p) [a] [] p2) body [] pos) (rdS G W (sForR rng1 ag (sBody put sf))) := z_forR1 fx hgl hm ha hgg hg hb hst hs
theorem q_forR2 {p p2 : Pos} {body : List Stmt} {sf : SM} (fx : Fx gb X G W k) (hgl : Gl X "range") (hm : X.mg "range" = none) (hst : starEach [a, b] X.env = [(false, eval a X.env), (false, eval b X.env)]) (hst2 : starEach [b] X.env = [(false, eval b X.env)]) (hs : ∀ x, foldedSetIterable (.Call (.Name "range" p) [a, b] [] p2) X.env x = pure x) (ha : PA X [a, b] (rdA G W ag)) (hgg : PG X tg gt) (hg : TgOk G gt put) (hb : PSs X body (rdS G W sf)) :
    PS X (.For tg (.Call (.Name "range" p) [a, b] [] p2) body [] pos) (rdS G W (sForR rng2 ag (sBody put sf))) := z_forR2 fx hgl hm ha hgg hg hb hst hst2 hs
theorem q_sub {o i : Expr} {to ti : TE} {t : TSet} (hs : PSet X t)
    (ha : ∀ v, assign (.Subscript o i pos) X.env v = (do
      let ov ← holding [v] (eval o X.env)
      let iv ← holding [v, ov] (eval i X.env)
      standAt pos
      holding [v, ov, iv] (setItem ov iv v)
      release [v, ov, iv] [])) (ho : PE X o to) (hi : PE X i ti) : PG X (.Subscript o i pos) (gSub to ti t) := pg_sub ho hi hs ha
end
end
end Mi
end
section
set_option Elab.async false
set_option linter.all false
set_option maxRecDepth 100000
set_option maxHeartbeats 4000000
namespace Mi
open PySem PySem.Spec PyProof.Rows L2
open Evl (Ex)

section
variable {gb : Bool} {X : Cx} {G : Cl} {W : WX} {k : Nat} {pos : Pos} {a b c e : Expr} {f g h : EM} {x : Str} {ag : AM} {es : List Expr} {tf : BM} {st : Stmt}
/-! a list that is handed back as its own -/
def sRetF (f : EM) : SM := sWith f fun v rho m => some (.fl (.rt v) rho, m)
theorem s_retF (h : PE X e (rd G W f)) : PS X (.Return (some e) pos) (rdS G W (sRetF f)) := by
  refine PS.to (ps_ret h) fun Dn σ H ⟨am, e0, rho, mu, F, s, r, mu', e, kk⟩ => ?_
  unfold sRetF sWith at e
  cases e1 : f rho mu with
  | none => rw [e1] at e; cases e
  | some z =>
    obtain ⟨o1, m1⟩ := z
    rw [e1] at e
    refine ⟨am, e0, rho, mu, F, s, o1, m1, e1, ?_⟩
    cases o1 with
    | ex c ds =>
      cases e
      exact kx_of s kk
    | ok vl =>
      cases e
      exact Kd.frm s.whole kk
/-! f(g(..)) where g's new list is f's own to change -/
def scD : D → Bool
  | .non => true
  | .bl _ => true
  | .int _ => true
  | .str _ => true
  | _ => false
theorem sc_any {F F' : Hp} {am am' : Addr} {v : V} {d : D} (r : Rp G F am v d) (h : scD d = true) : Rp G F' am' v d := by
  cases r with
  | non => exact .non
  | bl b => exact .bl b
  | int i => exact .int i
  | str x => exact .str x
  | _ => cases h
theorem noL_any {F : Hp} {am am' : Addr} : ∀ {v : V} {d : D}, Rp G F am v d → scD d = true → Rp G F am' v d := fun r h => sc_any r h
def scDs (ds : List D) : Bool := ds.all scD
theorem scs_any {F F' : Hp} {am am' : Addr} : ∀ {vs : List V} {ds : List D}, RpAll G F am vs ds → scDs ds = true → RpAll G F' am' vs ds
  | _, _, .nil, _ => .nil
  | _, _, .cons r ra, z => by
    have z' := z
    unfold scDs at z'
    rw [List.all_cons, Bool.and_eq_true] at z'
    exact .cons (sc_any r z'.1) (scs_any ra z'.2)
def eMug (fm : FM) (f : EM) : EM := fun rho mu => match mu with
  | some _ => none
  | none => (match f rho none with
    | some (.ok (.fr ds), none) => if scDs ds = true then (match fm [.mug] (some ds) with
      | some (.ok (.fz d), some _) => if scD d = true then some (.ok (.fz d), none) else none
      | _ => none) else none
    | _ => none)
theorem mug_some {fm : FM} {rho : List Slot} {mu mu' : Mu} {o : Out Vl} (h : eMug fm f rho mu = some (o, mu')) : mu = none ∧ mu' = none ∧ ∃ ds d ds', f rho none = some (.ok (.fr ds), none) ∧ scDs ds = true ∧ fm [.mug] (some ds) = some (.ok (.fz d), some ds') ∧ scD d = true ∧ o = .ok (.fz d) := by
  unfold eMug at h
  split at h
  · cases h
  · split at h
    · rename_i ds e1
      split at h
      · rename_i hs
        split at h
        · rename_i d ds' e2
          split at h
          · rename_i hd
            cases h
            exact ⟨rfl, rfl, ds, d, ds', e1, hs, e2, hd, rfl⟩
          · cases h
        · cases h
      · cases h
    · cases h
theorem q_mug {g' : Bool} {j : Nat} {fm : FM} {p : Pos} {sd : Stmt} {ps : List Str} (hn : ps.length = 1) (fx : Fx gb X G W k) (h : CalM g' X.prog X.w G X.mg X.base j x sd ps fm) (hg' : g' = true → gb = true) (hj : j ≤ k) (hg : Gl X x) (hd : (x == ("__debug__" : Str)) = false)
    (he : starEach [e] X.env = (false, eval e X.env) :: starEach [] X.env) (hpl : (backTo pos (starEach [] X.env)).any (·.1) = false) (ha : PE X e (rd G W f)) : PE X (.Call (.Name x p) [e] [] pos) (rd G W (eMug fm f)) := by
  obtain ⟨fa, fd, U, F, hm, hb⟩ := h.ex
  have hk := U.kp
  rw [← fx.hK] at F hk hb
  rw [hn] at F
  refine PE.to (pe_callC (E := WE W) (F.mono hj) (fx.gd.le hg') fx.hr hg hm hk hb (fun σ => passAt fx.tk σ) hd he hpl (pa_cons ha pa_nil he)) fun σ H Q ⟨am, e0, rho, mu, F0, s, o, mu', e1, kk⟩ => ?_
  obtain ⟨rfl, rfl, ds, d, ds', h1, h2, h3, h4, rfl⟩ := mug_some e1
  refine ⟨am, e0, rho, none, F0, s, .ok (.fr ds), none, h1, ?_⟩
  intro q xs H1 F1 po nq eq efq _ ra
  show spF G 1 fm ([V.ref q] ++ []) H1 Q _
  refine ⟨q, some ds, F1, [.mug], po.sub, ⟨efq, xs, eq, scs_any ra h2⟩, .cons .mug .nil, po.tb.gd s.tb, rfl, _, _, h3, ?_⟩
  intro v H2 F2 p2 rv
  refine kk v H2 F2 ⟨fun a o _ z => ?_, po.fF.trans p2.fF, p2.sub, fun a z => ?_, trivial, Iff.rfl, po.tb.tr p2.tb⟩ (sc_any rv h4)
  · have na : a ≠ q := fun z2 => by
      rw [z2, nq] at z
      cases z
    obtain ⟨o1, e1, z1⟩ := po.keep a o (.inl rfl) z
    obtain ⟨o2, e2, z2⟩ := p2.keep a o1 (.inr na) e1
    exact ⟨o2, e2, fun n => by
      have y := z1 n
      subst y
      exact z2 n⟩
  · rcases p2.new a z with y | y
    · exact po.new a y
    · cases q2 : H a with
      | none => exact .inr rfl
      | some o =>
        obtain ⟨o', e', _⟩ := po.keep a o (.inl rfl) q2
        rw [e'] at y
        cases y
/-! repr of what is read -/
def rRepr (K : PySem.W.Frag) : List V → Hp → VK → Prop := fun xs H Q => ∃ a d, xs = [.ref a] ∧ Dp K H (.ref a) d ∧ d.showable = true ∧ d.hasDict = false ∧ d.depth ≤ 40 ∧ d.shown.length ≤ sizeLine ∧ Q (.str d.shown) H
theorem call_reprD (fx : Fx true X G W k) : CallR X (.builtin "repr") (rRepr X.K) := by
  intro pins s σ H xs us Q I rel h
  obtain ⟨a, d, rfl, hd, h1, h2, h3, h4, q⟩ := h
  cases rel with
  | cons r rr =>
    cases rr
    cases r
    obtain ⟨as, rs⟩ := Dp.reads I d _ _ hd rfl
    refine PySem.repr_of_reads' rs h1 (fun z => by rw [h2] at z; cases z) (fx.gd rfl) ?_ (fun _ _ e => e) (fun h' u tk hk => ?_) h4
    · have z := fx.hr.units
      omega
    · exact ⟨.str d.shown, H, I.kept (t' := tk) hk, ⟨u, rfl⟩, q⟩
def reprM (d : D) : Option Vl := match d with
  | .lst _ => go
  | .tup _ => go
  | _ => none
where go : Option Vl := match toPy d with
  | some p => if (p.showable && !p.hasDict && decide (p.depth ≤ 40) && decide (p.shown.length ≤ 10000000)) = true then some (.fz (.str p.shown)) else none
  | none => none
theorem boot_repr : bootBuiltins "repr" = some (.builtin "repr") := by decide +kernel
theorem ok_repr : CallOk G (rRepr G.K) (m1 reprM) := c1 fun am mu H F x d vl Q s mr r e kk => by
  have fin : ∀ a, x = .ref a → reprM.go d = some vl → rRepr G.K [x] H Q := fun a hx e => by
    subst hx
    unfold reprM.go at e
    cases h : toPy d with
    | none => rw [h] at e; cases e
    | some p =>
      rw [h] at e
      obtain ⟨hc, e2⟩ := ite_some e
      cases e2
      simp only [Bool.and_eq_true, Bool.not_eq_true', decide_eq_true_eq] at hc
      obtain ⟨⟨⟨h1, h2⟩, h3⟩, h4⟩ := hc
      refine ⟨a, p, rfl, toPy_at s r h, h1, h2, h3, Nat.le_trans h4 ?_, Kd.fz s mr (.str _) kk⟩
      rw [sizeLine_eq]
      decide
  unfold reprM at e
  cases r with
  | lst h1 r1 => exact fin _ rfl e
  | tup h1 r1 => exact fin _ rfl e
  | _ => cases e
theorem bi_repr (fx : Fx true X G W k) (h : X.mg "repr" = none) : BiOk X G "repr" (m1 reprM) := ⟨_, _, call_reprD fx, by rw [fx.hK]; exact ok_repr, h, .inl ⟨_, rfl, boot_repr⟩⟩
end
end Mi
end
section
set_option Elab.async false
set_option linter.all false
set_option maxRecDepth 100000
set_option maxHeartbeats 4000000
namespace Mi
open PySem PySem.Spec PyProof.Rows L2
open Evl (Ex)

section
variable {gb : Bool} {X : Cx} {G : Cl} {W : WX} {k : Nat} {pos : Pos} {a b c e : Expr} {f g h : EM} {x : Str} {ag : AM} {es : List Expr} {tf : BM} {st : Stmt}
/-! ### isinstance -/
/-- the class of a thing, as a thing -/
def tyD : D → Option D
  | .non => some (.ty "NoneType")
  | .bl _ => some (.ty "bool")
  | .int _ => some (.ty "int")
  | .str _ => some (.ty "str")
  | .lst _ => some (.ty "list")
  | .scr _ => some (.ty "list")
  | .tup _ => some (.ty "tuple")
  | .ins c _ => some (.cls c)
  | .emp => some (.ty "dict")
  | _ => none
def vK (G : Cl) : D → Value
  | .ty n => .type n
  | .cls c => .ref (G.ca c)
  | _ => .none
/-- what is known of instances of the class c -/
structure InsOk (G : Cl) (c : Nat) : Prop where
  cl : Cls G.K (G.ca c)
  ha : PySem.W.findIn G.K (.ref (G.ca c)) "__class__" = some (some (.builtin "object.__class__"))
  hn : PySem.W.specialIn G.K (.builtin "object.__class__") "__get__" = some (some (.builtin "getset_descriptor.__get__"))
  htk : PySem.W.takesIn G.K (.builtin "object.__class__") = some true
  hm : PySem.W.mroIn G.K (G.ca c) (.type "object") = some true
/-- who is whose: tb tells it, from the written part -/
structure IsTab (G : Cl) (tb : D → D → Option Bool) : Prop where
  is : ∀ a b r, tb a b = some r → PySem.W.kitOne G.K (vK G a) (vK G b) = some r
  ins : ∀ c b r, tb (.cls c) b = some r → InsOk G c
def clsD : D → Bool
  | .ty _ => true
  | .cls _ => true
  | _ => false
def isiM (tb : D → D → Option Bool) (x y : D) : Option Vl := match tyD x with
  | some t => if clsD y = true then (tb t y).map fun b => .fz (.bl b) else none
  | none => none
theorem sqT_ty {K : PySem.W.Frag} {F H : Hp} {a : Addr} {xs : List V} (s : Ex F H) (h : SqT K F a xs) : TyX K H (.ref a) (.type "tuple") := by
  rcases h with (h | ⟨o, h⟩) | h
  · exact .base (.tup (s _ _ h))
  · exact .fTuple (s _ _ h)
  · obtain ⟨o, its, n, h1, h2, _⟩ := h
    exact .kTuple h1 h2
theorem sqL_ty {K : PySem.W.Frag} {F H : Hp} {a : Addr} {xs : List V} (s : Ex F H) (h : SqL K F a xs) : TyX K H (.ref a) (.type "list") := by
  rcases h with (h | ⟨o, h⟩) | h
  · exact .base (.lst (s _ _ h))
  · exact .base (.frz (s _ _ h))
  · obtain ⟨o, its, n, h1, h2, _⟩ := h
    exact .kList h1 h2
theorem tyD_at {tb : D → D → Option Bool} {F H : Hp} {am : Addr} {v : V} {d t y : D} {r : Bool} (T : IsTab G tb) (s : Ex F H) (hr : Rp G F am v d) (h : tyD d = some t) (hb : tb t y = some r) : TyX G.K H v (vK G t) := by
  cases hr with
  | non =>
    cases h
    exact .base .non
  | bl b =>
    cases h
    exact .base (.bl b)
  | int i =>
    cases h
    exact .base (.int i)
  | str x =>
    cases h
    exact .base (.str x)
  | lst h1 h2 =>
    cases h
    exact .base (.lst (s _ _ h1))
  | scr h1 =>
    cases h
    exact sqL_ty s h1
  | tup h1 h2 =>
    cases h
    exact sqT_ty s h1
  | ins h1 h2 h3 =>
    cases h
    have o := T.ins _ _ _ hb
    exact .base (.ins (s _ _ h1) o.cl o.ha o.hn o.htk o.hm)
  | mug => cases h
  | ty n => cases h
  | cls c => cases h
  | exc _ _ _ => cases h
  | emp h1 =>
    cases h
    exact .base (.dK (s _ _ h1))
theorem cls_at {F : Hp} {am : Addr} {v : V} {d : D} (hr : Rp G F am v d) (h : clsD d = true) : ClsV v (vK G d) := by
  cases hr with
  | ty n => exact .ty n
  | cls c => exact .own _
  | _ => cases h
theorem ok_isi {tb : D → D → Option Bool} (T : IsTab G tb) : CallOk G (rIsi G.K) (m2 (isiM tb)) := c2 fun am mu H F x y d d' vl Q s mr r r' e kk => by
  unfold isiM at e
  cases h : tyD d with
  | none => rw [h] at e; cases e
  | some t =>
    rw [h] at e
    dsimp only at e
    obtain ⟨hc, e2⟩ : clsD d' = true ∧ (tb t d').map (fun b => Vl.fz (.bl b)) = some vl := by
      by_cases hc : clsD d' = true
      · rw [if_pos hc] at e
        exact ⟨hc, e⟩
      · rw [if_neg hc] at e
        cases e
    obtain ⟨b, hb, rfl⟩ := map_some e2
    exact ⟨x, y, _, _, b, rfl, cls_at r' hc, tyD_at T s r h hb, T.is _ _ _ hb, Kd.fz s mr (.bl b) kk⟩
theorem boot_isi : bootBuiltins "isinstance" = some (.builtin "isinstance") := by decide +kernel
theorem bi_isi {tb : D → D → Option Bool} (fx : Fx0 X G W) (T : IsTab G tb) (h : X.mg "isinstance" = none) : BiOk X G "isinstance" (m2 (isiM tb)) := ⟨_, _, call_isi, by rw [fx.hK]; exact ok_isi T, h, .inl ⟨_, rfl, boot_isi⟩⟩
/-! names of classes -/
theorem q_ty {n : String} (hg : Gl X x) (hm : X.mg x = none) (hv : bootBuiltins x = some (.type n)) (hn : x ≠ "__name__") (hd : (x == ("__debug__" : Str)) = false) : PE X (.Name x pos) (rd G W (eC (.ty n))) := d_c (pe_bltn hg hm hv (show RelV (.ty n) (.type n) from rfl) hn hd) fun _ _ => .ty n
theorem q_cls {c : Nat} (hg : Gl X x) (hm : X.mg x = some (.ref (G.ca c))) (hd : (x == ("__debug__" : Str)) = false) : PE X (.Name x pos) (rd G W (eC (.cls c))) := d_c (pe_glob hg hm (show RelV (.ref (G.ca c)) (.ref (G.ca c)) from rfl) hd) fun _ _ => .cls c
end
end Mi
end
section
set_option Elab.async false
set_option linter.all false
set_option maxRecDepth 100000
set_option maxHeartbeats 4000000
namespace Mi
open PySem PySem.Spec PyProof.Rows L2
open Evl (Ex)

section
variable {gb : Bool} {X : Cx} {G : Cl} {W : WX} {k : Nat} {pos : Pos} {a b c e : Expr} {f g h : EM} {x : Str} {ag : AM} {es : List Expr} {tf : BM} {st : Stmt}
/-! ### making objects, their properties and fields -/
structure MakM (P : Program) (w : World) (G : Cl) (mg : Str → Option Value) (base : Heap) (k : Nat) (x : Str) (c n : Nat) (fi : IM) : Prop where
  ex : ∃ (f : Addr) (fd : FuncData) (ps : List Str), Mk G.K (G.ca c) f ∧ FnOk P w G.K mg base (L2.CX P w) k f fd ps (spI G c (n + 1) fi) ∧ mg x = some (.ref (G.ca c)) ∧ Binds G.K fd ps []
/-- the wish of a place, for what a callee lets out -/
def EW (W : WX) : XK := fun cls d H => ∀ σ, W cls d σ H
theorem ew_passes (fx : Fx0 X G W) : Passes (L2.CX X.prog X.w) X (EW W) := passes_call fx.tk fun cls d σ H h => h σ
/-- a wish that does not look at the slots -/
structure Flat (W : WX) : Prop where
  is : ∀ σ σ' cls d H, W cls d σ H → W cls d σ' H
theorem flat_def {E : XK} : Flat (fun cls d _ H' => E cls d H') := ⟨fun _ _ _ _ _ h => h⟩
theorem flat_none : Flat WN := ⟨fun _ _ _ _ _ h => h⟩
theorem flat_eq (fl : Flat W) (σ : L2.St) (cls : Value) (d : Option Addr) (H : Hp) : W cls d σ H = EW W cls d H := propext ⟨fun h σ' => fl.is σ σ' cls d H h, fun h => h σ⟩
def lenI (n : Nat) (fi : IM) : IM := fun ds mu => match fi ds mu with
  | some (.ok fs, m) => if fs.length = n then some (.ok fs, m) else none
  | r => r
theorem spI_len {c n m : Nat} {fi : IM} {vs : List V} {H : Hp} {Q : VK} {E : XK} (h : spI G c n (lenI m fi) vs H Q E) : spI G c n fi vs H Q E := by
  obtain ⟨am, mu, H0, F, ds, x, dx, ws, h1, h2, h3, h4, h5, h6, h7, h8, h9, tt, o, mu', e, kk⟩ := h
  refine ⟨am, mu, H0, F, ds, x, dx, ws, h1, h2, h3, h4, h5, h6, h7, h8, h9, tt, o, mu', ?_, kk⟩
  unfold lenI at e
  split at e
  · rename_i fs m' e1
    split at e
    · cases e
      exact e1
    · cases e
  · exact e
theorem lenI_ok {m : Nat} {fi : IM} {ds : List D} {mu mu' : Mu} {fs : List D} (h : lenI m fi ds mu = some (.ok fs, mu')) : fs.length = m := by
  unfold lenI at h
  split at h
  · split at h
    · rename_i hl
      cases h
      exact hl
    · cases h
  · rename_i hx
    exact (hx _ _ h).elim
theorem q_make {j c n : Nat} {fi : IM} {p : Pos} (fl : Flat W) (fx : Fx gb X G W k) (h : MakM X.prog X.w G X.mg X.base j x c n fi) (hj : j + 1 ≤ k) (hg : Gl X x) (hd : (x == ("__debug__" : Str)) = false)
    (he : starEach (e :: es) X.env = (false, eval e X.env) :: starEach es X.env) (hpl : (backTo pos (starEach es X.env)).any (·.1) = false) (ha : PA X (e :: es) (rdA G W ag)) : PE X (.Call (.Name x p) (e :: es) [] pos) (rd G W (eMake c (lenI (G.fn c).length fi) (aLen n ag))) := by
  obtain ⟨fa, fd, ps, M, F, hm, hb⟩ := h.ex
  rw [← fx.hK] at M F hb
  refine d_make (n := n + 1) (E := EW W) (fun ds mu fs mu' z => lenI_ok z) (fun σ cls d H' => flat_eq fl σ cls d H') (pe_make M (F.imp fun vs H Q E z => spI_len z) (fx.hr.mono hj) hg hm hb .nil (ew_passes fx.toFx0) (a_len n ha) hd he hpl) fun rho mu ds m z => ?_
  rw [aLen_len z]
/-- a property: its getter -/
structure ProM (P : Program) (w : World) (G : Cl) (mg : Str → Option Value) (base : Heap) (k : Nat) (c : Nat) (f : Str) (fm : FM) : Prop where
  ex : ∃ (p g : Addr) (fd : FuncData) (ps : List Str), Cls G.K (G.ca c) ∧ PropOf G.K (G.ca c) f p g ∧ FnOk P w G.K mg base (L2.CX P w) k g fd ps (spF G 1 fm) ∧ Binds G.K fd ps []
theorem q_prop {j c : Nat} {fm : FM} {f' : Str} (fx : Fx gb X G W k) (h : ProM X.prog X.w G X.mg X.base j c f' fm) (hj : j + 1 ≤ k) (hab : attributeBase e f' X.env (eval e X.env) = eval e X.env) (he : PE X e (rd G W f)) : PE X (.Attribute e f' pos) (rd G W (eProp c fm f)) := by
  obtain ⟨p, ga, fd, ps, C, hp, F, hb⟩ := h.ex
  rw [← fx.hK] at C hp F hb
  exact d_prop (f := f') fx.hK (pe_prop he C hp F (fx.hr.mono hj) hb .nil passL hab)
theorem q_fld {fi : Nat → Option Nat} {f' : Str} (fx : Fx0 X G W) (hf : ∀ c j, fi c = some j → ClOk G c ∧ (G.fn c)[j]? = some f') (hab : attributeBase e f' X.env (eval e X.env) = eval e X.env) (he : PE X e (rd G W f)) : PE X (.Attribute e f' pos) (rd G W (eUn (fldD fi) f)) := d_fld fx.hK hf he hab
end
section
variable {gb : Bool} {P : Program} {w : World} {G : Cl} {mg : Str → Option Value} {base : Heap} {k : Nat}
/-- a method of a class of the text -/
structure MetM (G : Cl) (c : Nat) (m qual : Str) (st : Stmt) (f : Addr) (ps : List Str) : Prop where
  ex : ∃ (fd : FuncData), FunD G.K m qual (defArgs st) (defBody st) (defScope st) [] [] f fd ∧ Binds G.K fd ps []
theorem proM_of {c : Nat} {m qual : Str} {st : Stmt} {p f : Addr} {N ps : List Str} {sf : SM} {fm : FM} (Cc : Cls G.K (G.ca c)) (hp : PropOf G.K (G.ca c) m p f) (Dm : MetM G c m qual st f ps) (S : FnScope N ps (defScope st)) (h1 : ps.length = 1) (hfm : ∀ ds mu, fm ds mu = fnM N.length sf ds mu)
    (hbody : ∀ (f : Addr) (cdv : Value) (A : Around) (outer : List Env) (s : Shared) (H : Hp) (E : XK), Fx false (cxOf (L2.CX P w) P w G.K mg base N qual (defScope st) f cdv A outer s H E) G (fun cls d _ H' => E cls d H') k →
      PSs (cxOf (L2.CX P w) P w G.K mg base N qual (defScope st) f cdv A outer s H E) (defBody st) (rdS G (fun cls d _ H' => E cls d H') sf)) : ProM P w G mg base (k + 1) c m fm := by
  obtain ⟨fd, F, hb⟩ := Dm.ex
  refine ⟨p, f, fd, ps, Cc, hp, FnC.ok ?_, hb⟩
  rw [show spF G 1 fm = spF G ps.length fm by rw [h1]]
  refine fnC_by F S (fun vs H Q E h => spF_len h) fun cdv A outer s H vs Q E q hr h => ?_
  exact ⟨_, hbody f cdv A outer s H E ⟨⟨rfl, takes_of rfl rfl rfl rfl, passes_of rfl⟩, q, hr, rfl⟩, body_to hfm h⟩
theorem makM_of {c n : Nat} {x qual : Str} {st : Stmt} {f : Addr} {N ps : List Str} {sf : SM} {fi : IM} (M : Mk G.K (G.ca c) f) (hm : mg x = some (.ref (G.ca c))) (Dm : MetM G c "__init__" qual st f ps) (S : FnScope N ps (defScope st)) (h1 : ps.length = n + 1) (hfi : ∀ ds mu, fi ds mu = initM N.length c (G.fn c).length sf ds mu)
    (hbody : ∀ (f : Addr) (cdv : Value) (A : Around) (outer : List Env) (s : Shared) (H : Hp) (E : XK), Fx false (cxOf (L2.CX P w) P w G.K mg base N qual (defScope st) f cdv A outer s H E) G (fun cls d _ H' => E cls d H') k →
      PSs (cxOf (L2.CX P w) P w G.K mg base N qual (defScope st) f cdv A outer s H E) (defBody st) (rdS G (fun cls d _ H' => E cls d H') sf)) : MakM P w G mg base (k + 1) x c n fi := by
  obtain ⟨fd, F, hb⟩ := Dm.ex
  refine ⟨f, fd, ps, M, FnC.ok ?_, hm, hb⟩
  rw [show spI G c (n + 1) fi = spI G c ps.length fi by rw [h1]]
  refine fnC_by F S (fun vs H Q E h => ?_) fun cdv A outer s H vs Q E q hr h => ?_
  · obtain ⟨_, _, _, _, _, _, _, _, _, _, _, _, _, _, _, _, _, hl, _⟩ := h
    exact hl
  · exact ⟨_, hbody f cdv A outer s H E ⟨⟨rfl, takes_of rfl rfl rfl rfl, passes_of rfl⟩, q, hr, rfl⟩, init_to hfi h⟩
end
end Mi
end
section
set_option Elab.async false
set_option linter.all false
set_option maxRecDepth 100000
set_option maxHeartbeats 4000000
namespace Mi
open PySem PySem.Spec PyProof.Rows L2
open Evl (Ex)

/-! ### who is an instance of what: the usual table -/
def tbS (a b : String) : Option Bool := if tysL.contains a && tysQ.contains b then some (a == b || (a == "bool" && b == "int")) else none
theorem tbS_all : (tysL.all fun a => tysQ.all fun b => decide (kitB a b = some (a == b || (a == "bool" && b == "int")))) = true := by decide +kernel
theorem tbS_ok {K : PySem.W.Frag} {a b : String} {r : Bool} (h : tbS a b = some r) : PySem.W.kitOne K (.type a) (.type b) = some r := by
  unfold tbS at h
  obtain ⟨hc, e⟩ : (tysL.contains a && tysQ.contains b) = true ∧ some (a == b || (a == "bool" && b == "int")) = some r := by
    by_cases hc : (tysL.contains a && tysQ.contains b) = true
    · rw [if_pos hc] at h
      exact ⟨hc, h⟩
    · rw [if_neg hc] at h
      cases h
  rw [Bool.and_eq_true] at hc
  have z := List.all_eq_true.mp (List.all_eq_true.mp tbS_all a (List.contains_iff_mem.mp hc.1)) b (List.contains_iff_mem.mp hc.2)
  exact kit_ty ((of_decide_eq_true z).trans e)
def tbC (n : Nat) : D → D → Option Bool
  | .ty a, .ty b => tbS a b
  | .ty a, .cls c => if tysL.contains a && decide (c < n) then some false else none
  | .cls c, .ty b => if tysQ.contains b && decide (c < n) then some false else none
  | .cls c, .cls c' => if decide (c < n) && decide (c' < n) then some (c == c') else none
  | _, _ => none
/-- what the written part must say of n own classes -/
structure ClFacts (G : Cl) (n : Nat) : Prop where
  ins : ∀ c, c < n → InsOk G c
  tc : ∀ a ∈ tysL, ∀ c, c < n → PySem.W.kitOne G.K (.type a) (.ref (G.ca c)) = some false
  ct : ∀ b ∈ tysQ, ∀ c, c < n → PySem.W.kitOne G.K (.ref (G.ca c)) (.type b) = some false
  cc : ∀ c c', c < n → c' < n → PySem.W.kitOne G.K (.ref (G.ca c)) (.ref (G.ca c')) = some (c == c')
theorem if_some {α : Type} {c : Bool} {a b : α} (h : (if c = true then some a else none) = some b) : c = true ∧ a = b := ite_some h
theorem isTab_of {G : Cl} {n : Nat} (F : ClFacts G n) : IsTab G (tbC n) where
  is := fun a b r h => by
    cases a with
    | ty a =>
      cases b with
      | ty b => exact tbS_ok h
      | cls c =>
        obtain ⟨h1, rfl⟩ := if_some h
        rw [Bool.and_eq_true] at h1
        exact F.tc a (List.contains_iff_mem.mp h1.1) c (of_decide_eq_true h1.2)
      | _ => cases h
    | cls c =>
      cases b with
      | ty b =>
        obtain ⟨h1, rfl⟩ := if_some h
        rw [Bool.and_eq_true] at h1
        exact F.ct b (List.contains_iff_mem.mp h1.1) c (of_decide_eq_true h1.2)
      | cls c' =>
        obtain ⟨h1, rfl⟩ := if_some h
        rw [Bool.and_eq_true] at h1
        exact F.cc c c' (of_decide_eq_true h1.1) (of_decide_eq_true h1.2)
      | _ => cases h
    | _ => cases h
  ins := fun c b r h => by
    cases b with
    | ty b =>
      obtain ⟨h1, _⟩ := if_some h
      rw [Bool.and_eq_true] at h1
      exact F.ins c (of_decide_eq_true h1.2)
    | cls c' =>
      obtain ⟨h1, _⟩ := if_some h
      rw [Bool.and_eq_true] at h1
      exact F.ins c (of_decide_eq_true h1.1)
    | _ => cases h
section
variable {gb : Bool} {X : Cx} {G : Cl} {W : WX} {k : Nat} {pos : Pos} {a b c e : Expr} {f g h : EM} {x : Str} {ag : AM} {es : List Expr} {tf : BM} {st : Stmt}
theorem q_makeN {j c n nf : Nat} {fi : IM} {p : Pos} (hnf : (G.fn c).length = nf) (fl : Flat W) (fx : Fx gb X G W k) (h : MakM X.prog X.w G X.mg X.base j x c n fi) (hj : j + 1 ≤ k) (hg : Gl X x) (hd : (x == ("__debug__" : Str)) = false)
    (he : starEach (e :: es) X.env = (false, eval e X.env) :: starEach es X.env) (hpl : (backTo pos (starEach es X.env)).any (·.1) = false) (ha : PA X (e :: es) (rdA G W ag)) : PE X (.Call (.Name x p) (e :: es) [] pos) (rd G W (eMake c (lenI nf fi) (aLen n ag))) := by
  subst hnf
  exact q_make fl fx h hj hg hd he hpl ha
/-- self.f = e -/
theorem q_fldI (i : Nat) {c j : Nat} {ob : Expr} {fe : EM} {f' : Str} {pos' : Pos} (fx : Fx0 X G W) (C : ClOk G c) (hj : (G.fn c)[j]? = some f') (hl : (G.fn c).length < 1000) (hs : swapsWith e (some (.Attribute ob f' pos')) pos.line X.env = pure false) (ho : PE X ob (tVar i)) (he : PE X e (rd G W fe)) :
    PS X (.Assign [.Attribute ob f' pos'] e pos) (rdS G W (sFldI i c j fe)) := s_fldI fx.hK C hj hl (ps_fld ho he hs)
theorem q_self (i : Nat) (hN : X.N[i]? = some x) (hv : Vis X.env.scope x) (hd : (x == ("__debug__" : Str)) = false) (hcd : (x == ("__classdict__" : Str)) = false) : PE X (.Name x pos) (tVar i) := pe_var hN hv hd hcd
/-- f(..) of no arguments given by position, all by name: pm tells which one is the i-th parameter -/
def reK (pm : List Nat) (ds : List D) : List D := pm.map fun i => ds.getD i .non
end
end Mi
namespace Mi
open PySem PySem.Spec PyProof.Rows L2
theorem fld1 {G : Cl} {c0 j0 : Nat} {f : Str} (C : ClOk G c0) (h : (G.fn c0)[j0]? = some f) : ∀ c j, (fun c => if c = c0 then some j0 else none : Nat → Option Nat) c = some j → ClOk G c ∧ (G.fn c)[j]? = some f := fun c j e => by
  obtain ⟨rfl, rfl⟩ := ite_some (show (if c = c0 then some j0 else none) = some j from e)
  exact ⟨C, h⟩
end Mi
end
section
set_option Elab.async false
set_option linter.all false
set_option maxRecDepth 100000
set_option maxHeartbeats 4000000
namespace Mi
open PySem PySem.Spec PyProof.Rows L2
open Evl (Ex)

/-! ### calls whose arguments are all given by name -/
section
variable {g : Bool} {X : Cx} {CX : CXT} {k : Nat} {f : Addr} {fd : FuncData} {ps ks : List Str} {sp : Sp} {E : L2.St → XK} {x : Str} {p pos : Pos} {kws : List Keyword} {tk : TA} {gU : List Value → List Value → List Value} {gV : List V → List V → List V}
def tCallCK (m : Nat) (sp : Sp) (gV : List V → List V → List V) (E : L2.St → XK) (tk : TA) : TE := fun σ H Q => tk σ H fun zs H1 => zs.length = m ∧ sp (gV [] zs) H1 Q (E σ)
theorem pe_callCK (F : FnC g X.prog X.w X.K X.mg X.base CX k f fd ps sp) (hq : Qt g X.A) (hr : Room k X.A) (hgl : Gl X x) (hm : X.mg x = some (.ref f)) (hk : PySem.W.keepIn X.K (.ref f) = true) (hb : KBn X.K fd ps 0 ks gU gV) (hx : ∀ σ, PassesAt CX X σ (E σ))
    (hdb : (x == ("__debug__" : Str)) = false) (hall : (backToKw pos (keywordEach kws X.env)).all (·.1.isSome) = true) (hks : (backToKw pos (keywordEach kws X.env)).filterMap (·.1) = ks)
    (hpl : ((backTo pos (starEach [] X.env)).any (·.1) || (backToKw pos (keywordEach kws X.env)).any (·.1.isNone)) = false) (hkw : PK X kws tk) : PE X (.Call (.Name x p) [] kws pos) (tCallCK ks.length sp gV E tk) := by
  refine ⟨fun pins s σ H Q I want => wpAny_Call_Name_kw (ld_glob I hgl hm (PySem.W.callWith_KW0 (h₀ := X.base) I.ok.mod.kin hk hall (thn (hkw.run pos pins s σ H _ I want) fun ws s2 hw => ?_) hpl) hdb)⟩
  obtain ⟨zs, H2, I2, rz, hl, q⟩ := hw
  refine ⟨I2.kIn, ?_⟩
  rw [hks]
  have rel := hb.rel (vs := []) (us := []) .nil rz
  refine wpAny_call (codeAny_mono (F.go X.A X.stack s2 H2 ⟨[], ks.zip ws⟩ (gU [] ws) (gV [] zs) Q (E σ) hq hr I2.env0 (hb.to s2 [] ws I2.kIn rfl (rz.length.symm.trans hl)) rel q) fun r s3 h3 => ?_)
  match r, h3 with
  | .error e, h3 => exact hx σ pins H2 s2 e s3 I2 h3
  | .ok (.ret u), h3 => exact I2.after h3
  | .ok .next, h3 => exact h3.elim
  | .ok .brk, h3 => exact h3.elim
  | .ok .cont, h3 => exact h3.elim
end
theorem pick_vals {zs : List V} {ws : List Value} (r : Vals zs ws) (pm : List Nat) : Vals (pm.map fun i => zs.getD i .non) (pm.map fun i => ws.getD i .none) := by
  induction pm with
  | nil => exact .nil
  | cons i pm ih =>
    refine .cons ?_ ih
    show RelV (zs.getD i .non) (ws.getD i .none)
    rw [List.getD_eq_getElem?_getD, List.getD_eq_getElem?_getD]
    cases h : zs[i]? with
    | none =>
      have h2 : ws[i]? = none := by
        rw [List.getElem?_eq_none_iff] at h ⊢
        rw [← r.length]
        exact h
      rw [h2]
      exact rfl
    | some v =>
      obtain ⟨u, e, q⟩ := r.get h
      rw [e]
      exact q
section
variable {G : Cl} {x qual : Str} {params : Arguments} {body : List Stmt} {scope : Scope} {f : Addr} {fd : FuncData} {ps : List Str}
/-- how names bind: pm tells where the i-th parameter's value is written -/
theorem kbn_of {K : PySem.W.Frag} (F : FunD K x qual params body scope [] [] f fd) (ks : List Str) (pm : List Nat)
    (h : ∀ (kV doc pmv : Value) (an : Option Addr) (cdv ct : Value) (ws : List Value), ws.length = ks.length → bindArgs (PySem.W.fnOf x qual params body scope .none kV doc pmv an cdv ct) ⟨[], ks.zip ws⟩ = pure (ps.zip (pm.map fun i => ws.getD i .none))) :
    KBn K fd ps 0 ks (fun _ ws => pm.map fun i => ws.getD i .none) (fun _ zs => pm.map fun i => zs.getD i .non) := by
  obtain ⟨oc, od, dV, kV, doc, pmv, an, cdv, ct, osl, rfl, lk, hcd, hD, hK⟩ := F.ex
  have e : dV = .none := by
    rcases hD with ⟨_, z⟩ | ⟨z, _⟩
    · exact z
    · exact absurd rfl z
  subst e
  refine ⟨fun s us ws X l1 l2 => ?_, fun r1 r2 => pick_vals r2 pm⟩
  have l0 : us = [] := List.length_eq_zero_iff.mp l1
  subst l0
  exact .of_eq (h kV doc pmv an cdv ct ws l2)
end
section
variable {gb : Bool} {X : Cx} {G : Cl} {W : WX} {k : Nat} {pos : Pos} {a b c e : Expr} {f g h : EM} {x : Str} {ag : AM} {es : List Expr} {tf : BM} {st : Stmt} {kws : List Keyword}
/-- the keywords' values -/
theorem PK.to {t t' : TA} (h : PK X kws t) (k : ∀ σ H Q, t' σ H Q → t σ H Q) : PK X kws t' := ⟨fun pos pins s σ H Q I q => h.run pos pins s σ H Q I (k σ H Q q)⟩
theorem k_nil : PK X [] (rdA G W aNil) := by
  refine PK.to pk_nil fun σ H Q ⟨am, e0, rho, mu, F, s, o, mu', e, kk⟩ => ?_
  cases e
  exact kk [] H F (Post.refl s.sub s.mr) .nil
theorem k_cons {nm : Option Str} {kpos : Pos} (ha : PE X e (rd G W f)) (hr : PK X kws (rdA G W ag)) : PK X (⟨nm, e, kpos⟩ :: kws) (rdA G W (aCons f ag)) := by
  refine PK.to (pk_cons ha hr) fun σ H Q ⟨am, e0, rho, mu, F, s, o, mu', e1, kk⟩ => ?_
  refine rd_then s e1 (KoA.x kk) fun vl m1 v H1 F1 e2 q s1 rv => ?_
  refine rdA_then s1 e2 (KoA.x (KoA.pre s.sub q kk)) fun ds m2 vs H2 F2 e3 q2 s2 ra => ?_
  cases e3
  exact KoA.pre s.sub q kk (v :: vs) H2 F2 q2 (.cons (rv.mono q2.fF) ra)
def eOwnK (fm : FM) (pm : List Nat) (m : Nat) (g : AM) : EM := fun rho => M.bind (aLen m g rho) fun ds => M.bind (fm (reK pm ds)) fun d => M.pure d
theorem pick_rp {F : Hp} {am : Addr} {vs : List V} {ds : List D} (r : RpAll G F am vs ds) (pm : List Nat) : RpAll G F am (pm.map fun i => vs.getD i .non) (reK pm ds) := by
  induction pm with
  | nil => exact .nil
  | cons i pm ih =>
    refine .cons ?_ ih
    show Rp G F am (vs.getD i .non) (ds.getD i .non)
    rw [List.getD_eq_getElem?_getD, List.getD_eq_getElem?_getD]
    cases h : ds[i]? with
    | none =>
      have h2 : vs[i]? = none := by
        rw [List.getElem?_eq_none_iff] at h ⊢
        rw [r.length]
        exact h
      rw [h2]
      exact .non
    | some d =>
      obtain ⟨v, e, q⟩ := r.get h
      rw [e]
      exact q
theorem q_callK {g' : Bool} {n j : Nat} {fm : FM} {p : Pos} {sd : Stmt} {ps ks : List Str} (pm : List Nat) (hn : ks.length = n) (hpm : pm.length = ps.length) (fx : Fx gb X G W k) (h : CalM g' X.prog X.w G X.mg X.base j x sd ps fm) (hg' : g' = true → gb = true) (hj : j ≤ k) (hg : Gl X x) (hd : (x == ("__debug__" : Str)) = false)
    (hbind : ∀ (kV doc pmv : Value) (an : Option Addr) (cdv ct : Value) (ws : List Value), ws.length = ks.length → bindArgs (PySem.W.fnOf x x (defArgs sd) (defBody sd) (defScope sd) .none kV doc pmv an cdv ct) ⟨[], ks.zip ws⟩ = pure (ps.zip (pm.map fun i => ws.getD i .none)))
    (hall : (backToKw pos (keywordEach kws X.env)).all (·.1.isSome) = true) (hks : (backToKw pos (keywordEach kws X.env)).filterMap (·.1) = ks) (hpl : ((backTo pos (starEach [] X.env)).any (·.1) || (backToKw pos (keywordEach kws X.env)).any (·.1.isNone)) = false)
    (ha : PK X kws (rdA G W ag)) : PE X (.Call (.Name x p) [] kws pos) (rd G W (eOwnK fm pm n ag)) := by
  subst hn
  obtain ⟨fa, fd, U, F, hm, hb⟩ := h.ex
  have hk := U.kp
  rw [← fx.hK] at F hk U
  refine PE.to (pe_callCK (E := WE W) (F.mono hj) (fx.gd.le hg') fx.hr hg hm hk (kbn_of U ks pm hbind) (fun σ => passAt fx.tk σ) hd hall hks hpl ha) fun σ H Q ⟨am, e0, rho, mu, F0, s, o, mu', e1, kk⟩ => ?_
  have e1' : M.bind (ag rho) (fun ds => M.bind (if ds.length = ks.length then M.pure ds else M.no) fun ds => M.bind (fm (reK pm ds)) fun d => M.pure d) mu = some (o, mu') := by
    have z : M.bind (aLen ks.length ag rho) (fun ds => M.bind (fm (reK pm ds)) fun d => M.pure d) mu = some (o, mu') := e1
    unfold aLen M.bind at z
    unfold M.bind
    cases q : ag rho mu with
    | none => rw [q] at z; exact z
    | some y =>
      obtain ⟨o1, m1⟩ := y
      rw [q] at z
      cases o1 with
      | ex c ds => exact z
      | ok ds => exact z
  refine rdA_then s e1' (Ko.x kk) fun ds m1 vs H1 F1 e2 q s1 r => ?_
  by_cases hl : ds.length = ks.length
  · rw [if_pos hl] at e2
    refine ⟨r.length.trans hl, ?_⟩
    have e3 : M.bind (fm (reK pm ds)) (fun d => M.pure d) m1 = some (o, mu') := e2
    refine own_then (ag := ag) (fun _ _ _ => rfl) s1 ?_ (pick_rp r pm) e3 (Ko.pre s.sub s.mr q kk)
    rw [List.length_map, hpm]
  · rw [if_neg hl] at e2
    cases e2
end
end Mi
end
section
set_option Elab.async false
set_option linter.all false
set_option maxRecDepth 100000
set_option maxHeartbeats 4000000
namespace PySem
open PySem PyProof.Rows L2
section
variable {P : Program} {w : World} {A : Around} {E : Value → Shared → Prop} {s : Shared}
/-- the empty set, just made -/
abbrev eSetO (w : World) : Obj := { cls := .type "set", dict := none, data := .set #[] 0 (.fresh 0 0 (!w.params.followText "set-order")) }
/-- set(l), l a list of whole numbers: who is in it, and that its order is told -/
theorem set_of_ints {l : Addr} {items : Array Value} (ns : List Int) {Q : Value → Shared → Prop} (quiet : A.handled = none) (isL : s.heap.IsList l items) (hin : IntsAre items.toList ns) (few : ns.length + 1 < scanBound)
    (done : ∀ (h2 : Heap) (t2 c : Nat), SetR w h2 s.heap.objs.size (fun j => decide (j ∈ ns)) c → c ≤ ns.length → (∀ b o, s.heap.get? b = some o → h2.get? b = some o) → Q (.ref s.heap.objs.size) { s with heap := h2, toks := t2 }) :
    wpAny (model P w) A (call (.type "set") [.ref l]) Q E s := by
  have many : items.size = ns.length := by
    rw [← Array.length_toList]
    exact hin.length
  obtain ⟨cc, tt, hmro⟩ := F.called_set.mro
  have hmade := F.called_set.made
  have hsub := F.called_set.sub
  have a1 := F.called_set.notType
  have a2 := F.called_set.canCreate
  have a3 := F.typeCall_set_1 (.ref l)
  refine wpAny_call (codeAny_of_tree ?_)
  show wpAny _ _ (callAny (.type "set") _) _ _ _
  refine wpAny_pure ⟨Code.quiet_builtin _ (by decide +kernel), codeAny_builtin F.entry_type_call ?_⟩
  rw [Around.under_plain (weight_type_call_type "set" [.ref l] []) rfl]
  repeat (any_goals (first | assumption | wp_step))
  refine codeAny_mono (code_set_led1 (.ref l) (E := E) (Q₁ := fun z y => z = .ref s.heap.objs.size ∧ y = { s with heap := s.heap.push (eSetO w) }) ⟨rfl, rfl⟩) fun r y hr => ?_
  match r, hr with
  | .error e, hr => exact hr
  | .ok .next, hr => exact hr.elim
  | .ok .brk, hr => exact hr.elim
  | .ok .cont, hr => exact hr.elim
  | .ok (.ret z), ⟨ez, ey⟩ =>
    subst ez
    subst ey
    have new : (s.heap.push (eSetO w)).get? s.heap.objs.size = some (eSetO w) := Heap.get?_push_size _ rfl
    have isS : Shared.TypeIs { s with heap := s.heap.push (eSetO w) } (.ref s.heap.objs.size) "set" := ⟨_, new, rfl⟩
    have b1 := F.called_set.init.lookup
    have b2 := F.called_set.init.bind (.ref s.heap.objs.size)
    repeat (any_goals (first | assumption | wp_step))
    refine codeAny_mono (codeAny_call_builtin (R := wants (fun r y => r = .none ∧ ∃ h2 t2 c, y = { s with heap := h2, toks := t2 } ∧ SetR w h2 s.heap.objs.size (fun j => decide (j ∈ ns)) c ∧ c ≤ ns.length ∧ ∀ b o, s.heap.get? b = some o → h2.get? b = some o) E)
      F.called_set.init.plain F.entry_set_init (check_set_init_1 isS ?_)) fun r y hr => ?_
    · obtain ⟨⟨oc, od, odt, os⟩, there, isC, m, isD⟩ := isL
      obtain rfl : oc = .type "list" := isC
      obtain rfl : odt = .seq items m := isD
      have old : l < s.heap.objs.size := Heap.lt_size there
      have there2 : (s.heap.push (eSetO w)).get? l = some { cls := .type "list", dict := od, data := .seq items m, slots := os } := Heap.get?_push_of_some _ there
      have isL2 : (s.heap.push (eSetO w)).IsList l items := ⟨_, there2, rfl, m, rfl⟩
      have c1 := F.sub_list_set
      have c2 := F.sub_list_frozenset
      have c3 : (Value.type "list" == Value.type "dict") = false := by decide
      unfold Builtin.«set.__init__» noKeywords Builtin.Frozenset.updateFrom
      generalize hPI : pyIter = PI
      wp_walk
      subst hPI
      refine wpAny_pyIter_list isL2 (wpAny_bind (wpAny_runValue ?_))
      have q3 : A.in1.in1.in1.handled = none := by simp [quiet]
      have sz : (s.heap.push (eSetO w)).objs.size = s.heap.objs.size + 1 := Heap.size_push ..
      have n1 : l ≠ (s.heap.push (eSetO w)).objs.size := by
        rw [sz]
        exact Nat.ne_of_lt (Nat.lt_succ_of_lt old)
      have n2 : s.heap.objs.size ∉ [(s.heap.push (eSetO w)).objs.size, l] := by
        rw [sz]
        intro z
        rcases List.mem_cons.mp z with z | z
        · exact Nat.ne_of_lt (Nat.lt_succ_self _) z
        · exact Nat.ne_of_gt old (List.mem_singleton.mp z)
      have at_ : ∀ (i : Nat) (v : Value), items[i]? = some v → ∃ k t, ns[i]? = some k ∧ v = .int k t := fun i v hv => by
        have hi : i < ns.length := by
          rw [← many]
          exact (Array.getElem?_eq_some_iff.mp hv).1
        obtain ⟨t, e⟩ := PyProof.Rows.IntsAre.int_at hin i v (by rw [Array.getElem?_toList]; exact hv)
        refine ⟨ns[i], t, List.getElem?_eq_getElem hi, ?_⟩
        rw [e, List.getD_eq_getElem?_getD, List.getElem?_eq_getElem hi] <;> rfl
      refine set_update_ints ((Walks.list q3 _ l n1 items).toS) s.heap.objs.size n2 ns many few at_ (items.size - 0) 0 _ (by omega) (Nat.zero_le _) ⟨⟨_, Heap.get?_push_size _ rfl, rfl, rfl⟩, isL2.push _⟩ ⟨0, Nat.le_refl 0, ?_⟩ fun s2 c mv hc hS => ?_
      · exact setR_new_at (Heap.get?_push_of_some _ new)
      · obtain ⟨h2, g2, d2, t2, os2⟩ := s2
        obtain rfl : g2 = s.gens := mv.gens
        obtain rfl : d2 = s.drawn := mv.drawn
        obtain rfl : os2 = s.os := mv.os
        show wpAny _ _ _ _ _ _
        refine wpAny_pure ?_
        show wpAny _ _ (ret Value.none) _ _ _
        rw [many] at hc
        refine wpAny_pure ⟨rfl, h2, t2, c, rfl, hS, hc, fun b o z => mv.heap b o ?_ (Heap.get?_push_of_some _ (Heap.get?_push_of_some _ z))⟩
        have lb : b < s.heap.objs.size := Heap.lt_size z
        rw [sz]
        intro z2
        rcases List.mem_cons.mp z2 with z2 | z2
        · exact Nat.ne_of_lt lb z2
        · exact Nat.ne_of_lt (Nat.lt_succ_of_lt lb) (List.mem_singleton.mp z2)
    · match r, hr with
      | .error e, hr => exact hr
      | .ok .next, hr => exact hr.elim
      | .ok .brk, hr => exact hr.elim
      | .ok .cont, hr => exact hr.elim
      | .ok (.ret v), ⟨ev, h2, t2, c, ey, hS, hc, hk⟩ =>
        subst ev
        subst ey
        repeat (any_goals (first | assumption | wp_step))
        exact done _ _ _ hS hc hk
end
end PySem
end
section
set_option Elab.async false
set_option linter.all false
set_option maxRecDepth 100000
set_option maxHeartbeats 4000000
namespace Mi
open PySem PySem.Spec PyProof.Rows L2
open Evl (Ex)

/-! ### sorted(set(e)), e a list or a tuple of whole numbers -/
section
variable {gb : Bool} {X : Cx} {G : Cl} {W : WX} {k : Nat} {pos : Pos} {a b c e : Expr} {f g h : EM} {x : Str} {ag : AM} {es : List Expr} {tf : BM} {st : Stmt}
def tSortSet (K : PySem.W.Frag) (ta : TE) : TE := fun σ H Q => ta σ H fun x H1 => ∃ (l : Addr) (ns : List Int), x = .ref l ∧ (SqL K H1 l (ns.map V.int) ∨ SqT K H1 l (ns.map V.int)) ∧ ns.length < 64 ∧
  ∀ (ms : List Int) (p : Addr), ms.Pairwise (· < ·) → (∀ j : Int, j ∈ ms ↔ j ∈ ns) → H1 p = none → Q (.ref p) (upd H1 p (.lst (ms.map V.int)))
theorem sort_laid {pins : List (Addr × Obj)} {σ : L2.St} {H : Hp} {s : Shared} {Q : VK} {o : Addr} {ns : List Int} {n : Nat} (hc : X.calm = true) (I : Inv X pins σ H s) (R : SetR X.w s.heap o (fun j => decide (j ∈ ns)) n) (h64 : n < 64)
    (q : ∀ (ms : List Int) (p : Addr), ms.Pairwise (· < ·) → (∀ j : Int, j ∈ ms ↔ j ∈ ns) → H p = none → Q (.ref p) (upd H p (.lst (ms.map V.int)))) :
    wpAny (model X.prog X.w) X.A (call (.builtin "sorted") [.ref o]) (EP X pins σ Q) X.xe s := by
  refine sorted_set R (I.ok.hd hc) h64 fun s2 p out cap ms keep gens os new at_ isI srt who many => ?_
  obtain ⟨h2, g2, d2, t2, os2⟩ := s2
  obtain rfl : os2 = s.os := os
  have free : H p = none := I.hok.fresh new
  have len : (ms.map V.int).length ≤ sizeLine := by
    rw [List.length_map, many, sizeLine_eq]
    omega
  have J : Inv X pins σ (upd H p (.lst (ms.map V.int))) { s with heap := h2, gens := g2, drawn := d2, toks := t2 } := I.call (h' := h2) (g' := g2) (d' := d2) (t' := t2) (ch := []) (Un.laid keep new free) (I.hok.laid keep new ⟨len, out.toList, cap, vals_of_ints isI, at_⟩) (by
      have z : g2 = s.gens := gens
      rw [z]
      exact I.bare) (fun _ z => nomatch z)
  exact ⟨.ref p, _, J, rfl, q ms p srt (fun j => (who j).trans (by rw [decide_eq_true_eq])) free⟩
theorem pe_sortSet {ta : TE} {p p2 q : Pos} (hc : X.calm = true) (hg : Gl X "sorted") (hm : X.mg "sorted" = none) (hg2 : Gl X "set") (hm2 : X.mg "set" = none) (na : starEach [a] X.env = (false, eval a X.env) :: starEach [] X.env) (ha : PE X a ta) :
    PE X (.Call (.Name "sorted" p) [.Call (.Name "set" p2) [a] [] q] [] pos) (tSortSet X.K ta) := by
  refine ⟨fun pins s σ H Q I want => Call_ (ld_blt I hg hm boot_sorted (PyProof.Rows.callWith_builtin1 (PyProof.Rows.args_cons ?_ rfl) rfl rfl))⟩
  refine Call_ (ld_blt I hg2 hm2 PyProof.Rows.boot_set (PyProof.Rows.callWith_type1 (PyProof.Rows.args_cons (thn (ha.run pins s σ H _ I want) fun v s1 ⟨x, H1, I1, r1, q1⟩ => PyProof.Rows.args_nil ?_) na) na rfl))
  obtain ⟨l, ns, rfl, hq, h64, q1⟩ := q1
  cases r1
  have few : ns.length + 1 < scanBound := by
    unfold scanBound
    omega
  rcases hq with hq | hq
  · obtain ⟨its, rv, isL, _⟩ := I1.list hq
    refine set_of_ints ns (I1.ok.hd hc) isL.isList (ints_of_vals rv) few fun h2 t2 m R hm hk => PyProof.Rows.args_nil ?_
    exact sort_laid hc (I1.kept (t' := t2) hk) R (Nat.lt_of_le_of_lt hm h64) q1
  · obtain ⟨its, rv, isT, _⟩ := I1.tuple hq
    refine call_set_tupI ns (I1.ok.hd hc) isT (ints_of_vals rv) few fun h2 t2 m R hm hk => PyProof.Rows.args_nil ?_
    exact sort_laid hc (I1.kept (t' := t2) hk) R (Nat.lt_of_le_of_lt hm h64) q1
/-- without repetitions, in order -/
def dedI : List Int → List Int
  | [] => []
  | [x] => [x]
  | x :: y :: r => if x = y then dedI (y :: r) else x :: dedI (y :: r)
theorem dedI_mem : ∀ (ns : List Int) (j : Int), j ∈ dedI ns ↔ j ∈ ns
  | [], j => Iff.rfl
  | [x], j => Iff.rfl
  | x :: y :: r, j => by
    have ih := dedI_mem (y :: r) j
    unfold dedI
    by_cases h : x = y
    · rw [if_pos h, ih, h]
      simp
    · rw [if_neg h, List.mem_cons, ih, List.mem_cons (a := j) (b := x)]
theorem dedI_lt : ∀ (ns : List Int), ns.Pairwise (· ≤ ·) → (dedI ns).Pairwise (· < ·)
  | [], _ => .nil
  | [x], _ => List.pairwise_singleton _ _
  | x :: y :: r, h => by
    obtain ⟨h1, h2⟩ := List.pairwise_cons.mp h
    have ih := dedI_lt (y :: r) h2
    unfold dedI
    by_cases e : x = y
    · rw [if_pos e]
      exact ih
    · rw [if_neg e]
      refine List.pairwise_cons.mpr ⟨fun z hz => ?_, ih⟩
      have hz2 := (dedI_mem (y :: r) z).mp hz
      have a1 := h1 y (List.mem_cons_self ..)
      have a2 : y ≤ z := by
        rcases List.mem_cons.mp hz2 with w | w
        · omega
        · exact (List.pairwise_cons.mp h2).1 z w
      omega
theorem lt_uniq : ∀ {xs ys : List Int}, xs.Pairwise (· < ·) → ys.Pairwise (· < ·) → (∀ j, j ∈ xs ↔ j ∈ ys) → xs = ys
  | [], [], _, _, _ => rfl
  | [], y :: ys, _, _, h => absurd ((h y).mpr (List.mem_cons_self ..)) (by simp)
  | x :: xs, [], _, _, h => absurd ((h x).mp (List.mem_cons_self ..)) (by simp)
  | x :: xs, y :: ys, hx, hy, h => by
    obtain ⟨x1, x2⟩ := List.pairwise_cons.mp hx
    obtain ⟨y1, y2⟩ := List.pairwise_cons.mp hy
    have e : x = y := by
      rcases List.mem_cons.mp ((h x).mp (List.mem_cons_self ..)) with z | z
      · exact z
      · rcases List.mem_cons.mp ((h y).mpr (List.mem_cons_self ..)) with w | w
        · exact w.symm
        · have b1 := y1 x z
          have b2 := x1 y w
          omega
    subst e
    rw [lt_uniq x2 y2 fun j => ?_]
    constructor
    · intro hj
      rcases List.mem_cons.mp ((h j).mp (List.mem_cons_of_mem _ hj)) with z | z
      · have := x1 j hj
        omega
      · exact z
    · intro hj
      rcases List.mem_cons.mp ((h j).mpr (List.mem_cons_of_mem _ hj)) with z | z
      · have := y1 j hj
        omega
      · exact z
def listTI : D → Option (List Int)
  | .tup ds => intsD ds
  | d => listI d
def sosM (d : D) : Option Vl := match listTI d with
  | some ns => if ns.length < 64 then some (.fr ((dedI (sortI ns)).map .int)) else none
  | none => none
def eSos (f : EM) : EM := fun rho => M.bind (f rho) fun x => M.of (sosM x.d)
theorem listTI_at {F H : Hp} {am : Addr} {v : V} {d : D} {ns : List Int} (s : Ex F H) (r : Rp G F am v d) (h : listTI d = some ns) : ∃ p, v = .ref p ∧ (SqL G.K H p (ns.map V.int) ∨ SqT G.K H p (ns.map V.int)) := by
  cases r with
  | tup h1 r1 =>
    have e := intsD_some (show intsD _ = some ns from h)
    subst e
    have e2 := RpAll.ints r1
    subst e2
    exact ⟨_, rfl, .inr (Evl.ex_t s h1)⟩
  | lst h1 r1 =>
    obtain ⟨p, e, q⟩ := listI_at s (.lst h1 r1) h
    exact ⟨p, e, .inl q⟩
  | scr h1 =>
    obtain ⟨p, e, q⟩ := listI_at (am := am) s (.scr h1) h
    exact ⟨p, e, .inl q⟩
  | _ => cases h
theorem q_sos {p p2 q : Pos} (fx : Fx gb X G W k) (hg : Gl X "sorted") (hm : X.mg "sorted" = none) (hg2 : Gl X "set") (hm2 : X.mg "set" = none) (na : starEach [a] X.env = (false, eval a X.env) :: starEach [] X.env) (ha : PE X a (rd G W f)) :
    PE X (.Call (.Name "sorted" p) [.Call (.Name "set" p2) [a] [] q] [] pos) (rd G W (eSos f)) := by
  refine PE.to (pe_sortSet fx.calm hg hm hg2 hm2 na ha) fun σ H Q ⟨am, e0, rho, mu, F, s, o, mu', e, kk⟩ => ?_
  refine rd_then s e (Ko.x kk) fun vl m1 v H1 F1 e1 po s1 rv => ?_
  obtain ⟨z, hz, rfl, rfl⟩ := of_some e1
  unfold sosM at hz
  cases h : listTI vl.d with
  | none => rw [h] at hz; cases hz
  | some ns =>
    rw [h] at hz
    obtain ⟨h64, rfl⟩ := ite_some hz
    obtain ⟨l, rfl, hq⟩ := listTI_at s1.sub rv h
    rw [fx.hK]
    refine ⟨l, ns, rfl, hq, h64, fun ms r srt who free => ?_⟩
    have em : ms = dedI (sortI ns) := lt_uniq srt (dedI_lt _ (sortI_sorted ns)) fun j => by rw [who, dedI_mem, (sortI_perm ns).mem_iff]
    subst em
    exact Kd.lst s1.sub s1.mr (RpAll.of_ints _) free (Kd.pre s.sub s.mr po kk)
end
end Mi
end
section
set_option Elab.async false
set_option linter.all false
set_option maxRecDepth 100000
set_option maxHeartbeats 4000000
namespace Mi
open PySem PySem.Spec PyProof.Rows L2
open Evl (Ex)
section
variable {gb : Bool} {P : Program} {w : World} {G : Cl} {mg : Str → Option Value} {base : Heap} {k : Nat} {x : Str} {st : Stmt} {ps : List Str}
/-- a promise of nothing -/
theorem calM_none (Dm : DefM G mg x st ps) : CalM gb P w G mg base k x st ps (fun _ _ => none) := by
  obtain ⟨f, fd, F, hm, hb⟩ := Dm.ex
  exact ⟨f, fd, F, ⟨fun vs H Q E h => spF_len h, fun A outer s H args us vs Q E _ _ _ _ _ h => by
    obtain ⟨_, _, _, _, _, _, _, _, _, _, _, e, _⟩ := h
    cases e⟩, hm, hb⟩
end
section
variable {gb : Bool} {X : Cx} {G : Cl} {W : WX} {k : Nat} {pos : Pos} {a b c e : Expr} {f g h : EM} {x : Str} {ag : AM} {es : List Expr} {tf : BM} {st : Stmt}
theorem s_par3 {i j l : Nat} (h : PS X st (tPar3 i j l (rdA G W ag))) : PS X st (rdS G W (sPar3 i j l ag)) := by
  refine PS.to h fun Dn σ H ⟨am, e0, rho, mu, F, s, r, mu', e, kk⟩ => ?_
  refine with_useA s e kk fun ds m1 vs H1 F1 e1 q s1 rv k1 => ?_
  cases rv with
  | nil => cases e1
  | cons r1 rv =>
    cases rv with
    | nil => cases e1
    | cons r2 rv =>
      cases rv with
      | nil => cases e1
      | cons r3 rv =>
        cases rv with
        | nil =>
          cases e1
          exact ⟨_, _, _, rfl, k1 _ H1 F1 (Ex.refl F1) (((s1.set r1).set r2).set r3)⟩
        | cons _ _ => cases e1
/-- name op= e, for whole numbers -/
def sAug (m : D → D → Option Vl) (i : Nat) (f : EM) : SM := fun rho mu => match slotD rho[i]? with
  | some d => sWith f (fun v rho mu => match m d v.d with
    | some (.fz z) => some (.fl .nx (rho.set i (.va z)), mu)
    | _ => none) rho mu
  | none => none
theorem s_aug {i : Nat} {gI : Int → Int → Int} {m : D → D → Option Vl} (hm : ∀ x y z, m x y = some (.fz z) → ∃ u v, x = .int u ∧ y = .int v ∧ z = .int (gI u v)) (h : PS X st (tAug i (rd G W f) (ipI gI))) : PS X st (rdS G W (sAug m i f)) := by
  refine PS.to h fun Dn σ H ⟨am, e0, rho, mu, F, s, r, mu', e, kk⟩ => ?_
  unfold sAug at e
  cases e1 : slotD rho[i]? with
  | none => rw [e1] at e; cases e
  | some d =>
    rw [e1] at e
    obtain ⟨x, h1, rx⟩ := s.va i d (slotD_some e1)
    refine ⟨x, h1, ?_⟩
    refine with_use s e kk fun vl m1 y H1 F1 e2 q s1 ry k1 => ?_
    cases e3 : m d vl.d with
    | none => rw [e3] at e2; cases e2
    | some z =>
      rw [e3] at e2
      cases z with
      | fr ds => cases e2
      | fz z =>
        obtain ⟨u, v, hd, hv, hz⟩ := hm _ _ _ e3
        rw [hd] at rx
        rw [hv] at ry
        cases rx
        cases ry
        cases e2
        subst hz
        exact ⟨u, v, rfl, rfl, k1 _ H1 F1 (Ex.refl F1) (s1.set (.int _))⟩
end
end Mi
end
section
set_option Elab.async false
set_option linter.all false
set_option maxRecDepth 100000
set_option maxHeartbeats 4000000
namespace Mi
open PySem PySem.Spec PyProof.Rows L2
open Evl (Ex)

/-! ### what the top leaves, as this layer asks it -/
theorem MDef.funD {K : PySem.W.Frag} {d : MDef} (e : fnAt K (d.ad K) = d.val) (c : d.ok K = true) : ∃ fd, FunD K d.name d.qual (defArgs d.st) (defBody d.st) (defScope d.st) [] [] (d.ad K) fd := by
  unfold MDef.ok at c
  rw [Bool.and_eq_true] at c
  obtain ⟨kp, c⟩ := c
  unfold fnAt at e
  match q : K.lookup (d.ad K), c, e with
  | some ⟨oc, od, .func ⟨n1, n2, n3, n4, n5, n6, n7, n8, n9, n10, n11, n12, n13, n14, n15⟩, osl⟩, c, e =>
    simp only at c e
    unfold MDef.val at e
    simp only [Option.some.injEq, Prod.mk.injEq] at e
    obtain ⟨rfl, rfl, rfl, rfl, rfl, rfl, rfl, rfl⟩ := e
    simp only [Bool.and_eq_true] at c
    exact ⟨_, ⟨oc, od, n8, n9, n10, n11, n12, n13, n14, osl, rfl, q, c.1, He.dflB_ok c.2.1, He.kwdB_ok c.2.2⟩, kp⟩
section
variable {ex : PySem.W.Frag → Bool} {ds : List MDef} {K : PySem.W.Frag}
theorem SaysM.more (c : SaysM ex ds K) : ex K = true := (Bool.and_eq_true_iff.mp (show (ex K && ds.all fun d => d.ok K) = true from congrArg (fun z : AlM => z.1) c)).1
theorem SaysM.fn (c : SaysM ex ds K) (i : Nat) {d : MDef} (h : ds[i]? = some d) : ∃ fd, FunD K d.name d.qual (defArgs d.st) (defBody d.st) (defScope d.st) [] [] (d.ad K) fd := by
  have c2 := (Bool.and_eq_true_iff.mp (show (ex K && ds.all fun d => d.ok K) = true from congrArg (fun z : AlM => z.1) c)).2
  have e : ds.map (fun d => fnAt K (d.ad K)) = ds.map MDef.val := congrArg (fun z : AlM => z.2) c
  have e2 : (ds.map (fun d => fnAt K (d.ad K)))[i]? = (ds.map MDef.val)[i]? := by rw [e]
  rw [List.getElem?_map, List.getElem?_map, h] at e2
  exact MDef.funD (Option.some.inj e2) (List.all_eq_true.mp c2 d (List.mem_of_getElem? h))
end
/-! addresses, facts -/
theorem propB_ok {K : PySem.W.Frag} {C : Addr} {f : Str} (h : propB K C f = true) : PropOf K C f (He.ma K C f) (gtA K (He.ma K C f)) := by
  unfold propB at h
  simp only [Bool.and_eq_true] at h
  obtain ⟨h1, h2, h3, h4⟩ := h
  refine ⟨He.eqO_ok h1, of_decide_eq_true h2, of_decide_eq_true h3, ?_⟩
  unfold gtA
  split at h4
  · rename_i g rest e
    rw [e]
    exact ⟨rest, rfl⟩
  · cases h4
/-- instances of the class at C -/
def clOf (K : PySem.W.Frag) (xs : List (Str × List Str)) (T : List (Addr × Str)) : Cl := ⟨K, fun c => He.ga K (xs.getD c ("", [])).1, fun c => (xs.getD c ("", [])).2, T, none⟩
theorem facts_of {K : PySem.W.Frag} {xs : List (Str × List Str)} {T : List (Addr × Str)} (nd : (xs.map (·.1)).Nodup) (h : tabB K (xs.map (·.1)) = true) : ClFacts (clOf K xs T) xs.length := by
  unfold tabB at h
  simp only [Bool.and_eq_true, List.all_eq_true, decide_eq_true_eq] at h
  obtain ⟨h1, h2, h3, h4⟩ := h
  have mem : ∀ c, c < xs.length → (xs.getD c ("", [])).1 ∈ xs.map (·.1) := fun c hc => by
    rw [List.getD_eq_getElem?_getD, List.getElem?_eq_getElem hc]
    exact List.mem_map_of_mem (List.getElem_mem hc)
  refine ⟨fun c hc => ?_, fun a ha c hc => h2 _ (mem c hc) a ha, fun b hb c hc => h3 _ (mem c hc) b hb, fun c c' hc hc' => ?_⟩
  · have z := h1 _ (mem c hc)
    unfold insB at z
    simp only [Bool.and_eq_true, decide_eq_true_eq] at z
    obtain ⟨z1, z2, z3, z4, z5⟩ := z
    exact ⟨He.cls_ok z1, z2, z3, z4, z5⟩
  · have z := h4 _ (mem c hc) _ (mem c' hc')
    refine z.trans ?_
    congr 1
    rw [List.getD_eq_getElem?_getD, List.getD_eq_getElem?_getD, List.getElem?_eq_getElem hc, List.getElem?_eq_getElem hc']
    show (xs[c].1 == xs[c'].1) = (c == c')
    have inj : xs[c].1 = xs[c'].1 → c = c' := fun e => by
      have n1 : c < (xs.map (·.1)).length := by rw [List.length_map]; exact hc
      have n2 : c' < (xs.map (·.1)).length := by rw [List.length_map]; exact hc'
      refine (List.getElem_inj (h₀ := n1) (h₁ := n2) nd).mp ?_
      rw [List.getElem_map, List.getElem_map]
      exact e
    by_cases e : c = c'
    · subst e
      simp
    · rw [beq_eq_false_iff_ne.mpr e, beq_eq_false_iff_ne.mpr fun z => e (inj z)]
theorem clOk_of {K : PySem.W.Frag} {xs : List (Str × List Str)} {T : List (Addr × Str)} {c : Nat} {x : Str} {fs : List Str} (hx : xs[c]? = some (x, fs)) (nd : fs.Nodup) (h1 : (He.Fa.cls x).ok K = true) (h2 : (fs.all fun f => (He.Fa.noat x f).ok K) = true) : ClOk (clOf K xs T) c := by
  have e : xs.getD c ("", []) = (x, fs) := by rw [List.getD_eq_getElem?_getD, hx]; rfl
  refine ⟨?_, ?_, fun f hf => ?_⟩
  · show Cls K (He.ga K (xs.getD c ("", [])).1)
    rw [e]
    exact He.cls_ok h1
  · show (xs.getD c ("", [])).2.Nodup
    rw [e]
    exact nd
  · have hf2 : f ∈ (xs.getD c ("", [])).2 := hf
    rw [e] at hf2
    show NoAttr K (He.ga K (xs.getD c ("", [])).1) f
    rw [e]
    exact He.noat_ok (List.all_eq_true.mp h2 f hf2)
theorem funD_one {K : PySem.W.Frag} {x1 q1 x2 q2 : Str} {a1 a2 : Arguments} {b1 b2 : List Stmt} {s1 s2 : Scope} {v1 v2 : List V} {w1 w2 : List (Str × V)} {f : Addr} {fd fd' : FuncData} (h : FunD K x1 q1 a1 b1 s1 v1 w1 f fd) (h' : FunD K x2 q2 a2 b2 s2 v2 w2 f fd') : fd = fd' := by
  obtain ⟨_, _, _, _, _, _, _, _, _, _, _, l1, _⟩ := h.ex
  obtain ⟨_, _, _, _, _, _, _, _, _, _, _, l2, _⟩ := h'.ex
  have e := l1.symm.trans l2
  simp only [Option.some.injEq, Obj.mk.injEq, Data.func.injEq] at e
  exact e.2.2.1
/-- the end of a law over this layer -/
theorem walkM {l : PySem.W.OpenLaw} {n k : Nat} {q : Program} {loose : List Str} {XP : (Str → Option Value) → Heap → Prop} {YP : World → Heap → Prop} {d : DefRec} {x x0 : Str} {st : Stmt} {fm : FM} (hn : l.most = some n) (hn2 : n ≤ sizeLine) (hdf : d.params.defaults = []) (hr : Room k callerA) (hname : d.name = x0)
    (hbA : ∀ (kV doc pm : Value) (an : Option Addr) (cdv ct : Value) (us : List Value), us.length = [x].length → bindArgs (PySem.W.fnOf x0 x0 (defArgs st) (defBody st) (defScope st) .none kV doc pm an cdv ct) ⟨us, []⟩ = pure ([x].zip us))
    (F : ∀ (w : World) (mg : Str → Option Value) (h : Heap), YP w h → h.Ns mainGlobals mg → ∃ G : Cl, (G.T = [] ∧ G.xa = none) ∧ G.K.In h ∧ ∀ base : Heap, CalM true l.prog w G mg base k x0 st [x] fm) (hl : ∀ ns : List Int, ns.length ≤ n → fm [.scr ns] none = some (.ok (.fz (.bl true)), none)) :
    PySem.W.WalkO q loose XP YP l.row.toRowW d [] (fun f vs => PySem.call f vs) := by
  refine walkC (CX := fun w => L2.CX l.prog w) (k := k) (x := x) hn hn2 hdf hr (fun w mg fa h Y Gs hmg => ?_) fun w H s e s' z => ?_
  · obtain ⟨G, hT0, KX, c⟩ := F w mg h Y Gs
    have hTT : ∀ H : Hp, Gd G H := fun H => ⟨fun p hp => absurd hp (by rw [hT0.1]; exact List.not_mem_nil), fun _ _ _ _ z => absurd z (by rw [hT0.2]; exact fun y => nomatch y)⟩
    rw [hname] at hmg
    obtain ⟨f0, fd, U, _, hm0, _⟩ := (c h).ex
    obtain rfl : fa = f0 := Value.ref.inj (Option.some.inj (hmg.symm.trans hm0))
    refine ⟨G.K, fd, spF G 1 fm, KX, fun s u => U.bindsA (ps := [x]) hbA s [u] rfl, fun H a ns hlen hO hS => ?_, fun base _ _ => ?_⟩
    · refine ⟨0, none, H, [.scr ns], Ex.refl H, trivial, .cons (.scr hS) .nil, hTT H, rfl, _, none, hl ns hlen, fun v H2 F2 p r => ?_⟩
      cases r
      rfl
    · obtain ⟨f1, fd1, U1, C1, hm1, _⟩ := (c base).ex
      obtain rfl : fa = f1 := Value.ref.inj (Option.some.inj (hmg.symm.trans hm1))
      obtain rfl := funD_one U U1
      exact C1
  · obtain ⟨_, _, _, _, _, _, _, _, _, _, _, _, z⟩ := z
    exact z
end Mi
end
section
set_option Elab.async false
set_option linter.all false
set_option maxRecDepth 100000
set_option maxHeartbeats 4000000
namespace Mi
open PySem PySem.Spec PyProof.Rows L2
open Evl (Ex)
section
variable {gb : Bool} {X : Cx} {G : Cl} {W : WX} {k : Nat} {pos : Pos} {a b c e : Expr} {f g h : EM} {x : Str} {ag : AM} {es : List Expr} {tf : BM} {st : Stmt}
def inA (neg : Bool) : D → D → Option Vl := orM (inD neg) (inS neg)
theorem cp_in (fx : Fx0 X G W) : CpOk X G .In (inA false) := ⟨_, op_in_seq.or op_in_sign, by rw [fx.hK]; exact ok_or (ok_in false) ok_inS⟩
theorem cp_notin (fx : Fx0 X G W) : CpOk X G .NotIn (inA true) := ⟨_, op_notIn_seq.or op_notIn_sign, by rw [fx.hK]; exact ok_or (ok_in true) ok_notInS⟩
/-- name.append(e) -/
theorem q_app (i : Nat) {apos cpos pos' p : Pos} (hN : X.N[i]? = some x) (hv : Vis X.env.scope x) (hd : (x == ("__debug__" : Str)) = false) (hcd : (x == ("__classdict__" : Str)) = false) (hl : (apos.endLine == cpos.line) = true) (he : PE X e (rd G W f))
    (hbase : attributeBase (.Name x p) "append" X.env (eval (.Name x p) X.env) = eval (.Name x p) X.env := by rfl)
    (hfew : ((backTo cpos (starEach (e :: []) X.env)).all (fun x => !x.1) && (backToKw cpos (keywordEach [] X.env)).all (fun x => x.1.isSome)
      && decide ((e :: ([] : List Expr)).length + ([] : List Keyword).length + (if ([] : List Keyword).isEmpty then 0 else 1) < 30)) = true := by rfl)
    (hs : starEach (e :: []) X.env = (false, eval e X.env) :: starEach [] X.env := by rfl) (hplain : (backTo cpos (starEach [] X.env)).any (·.1) = false := by rfl) :
    PS X (.Expr (.Call (.Attribute (.Name x p) "append" apos) [e] [] cpos) pos') (tDrop (tBM X.K "list" rAppend (tVar i) (tCons (rd G W f) tNil))) :=
  ps_expr (pe_bm PySem.F.plainAttrs_list PySem.F.slot_list_append PySem.F.type_list_append mt_append (pe_var hN hv hd hcd) (pa_cons he pa_nil hs) hbase hfew hl hs hplain)
theorem q_aug (i : Nat) {op : Operator} {ti : TIp} {pos' : Pos} (hN : X.N.Nodup) (hi : X.N[i]? = some x) (hx : Loc X.env.scope x) (hf : X.fn x = true ∨ X.env.scope.names.lookup x = some .local) (he : PE X e (rd G W f)) (ho : PIp X op ti) : PS X (.AugAssign (.Name x pos') op e pos) (tAug i (rd G W f) ti) := ps_aug hN hi hx he ho hf
theorem aug_add (x y z : D) (h : addI x y = some (.fz z)) : ∃ u v, x = .int u ∧ y = .int v ∧ z = .int (u + v) := by
  cases x with
  | int u =>
    cases y with
    | int v =>
      cases h
      exact ⟨u, v, rfl, rfl, rfl⟩
    | _ => cases h
  | _ => cases h
theorem aug_sub (x y z : D) (h : subI x y = some (.fz z)) : ∃ u v, x = .int u ∧ y = .int v ∧ z = .int (u - v) := by
  cases x with
  | int u =>
    cases y with
    | int v =>
      cases h
      exact ⟨u, v, rfl, rfl, rfl⟩
    | _ => cases h
  | _ => cases h
end
end Mi
end
section
set_option Elab.async false
set_option linter.all false
set_option maxRecDepth 100000
set_option maxHeartbeats 4000000
namespace Mi
open PySem PySem.Spec PyProof.Rows L2
open Evl (Ex)
/-! ### several names at once, one of them gets a list of its own -/
abbrev A1 := List Slot → M (List D × List D × List D)
def KoA1 (G : Cl) (W : WX) (σ : L2.St) (am : Addr) (mu : Mu) (H F : Hp) (mu' : Mu) (Q : List V → Hp → Prop) : Out (List D × List D × List D) → Prop
  | .ok r => ∀ vs1 p xs vs2 H' F', Post G am mu H F mu' H' F' → H p = none → H' p = some (.lst xs) → F' p = none → (mu = none ∨ p ≠ am) → RpAll G F' am xs r.2.1 → RpAll G F' am vs1 r.1 → RpAll G F' am vs2 r.2.2 → Q (vs1 ++ .ref p :: vs2) H'
  | .ex c ds => Kx G W σ am mu H F mu' c ds
def rdA1 (G : Cl) (W : WX) (f : A1) : TA := fun σ H Q => ∃ (am : Addr) (e0 : En) (rho : List Slot) (mu : Mu) (F : Hp), Sta G am e0 rho mu σ H F ∧ ∃ o mu', f rho mu = some (o, mu') ∧ KoA1 G W σ am mu H F mu' Q o
def a1Here (f : EM) (g : AM) : A1 := fun rho mu => match f rho mu with
  | some (.ok (.fr ds), m) => M.bind (g rho) (fun es => M.pure ([], ds, es)) m
  | _ => none
def a1Next (g : EM) (f : A1) : A1 := fun rho => M.bind (g rho) fun x => M.bind (f rho) fun r => M.pure (x.d :: r.1, r.2.1, r.2.2)
section
variable {gb : Bool} {X : Cx} {G : Cl} {W : WX} {k : Nat} {pos : Pos} {a b c e : Expr} {f g h : EM} {x : Str} {ag : AM} {es : List Expr} {tf : BM} {st : Stmt} {og : A1}
theorem Post.keepP {am : Addr} {mu m1 : Mu} {H F H1 F1 : Hp} {p : Addr} {o : HO} (q : Post G am mu H F m1 H1 F1) (hp : mu = none ∨ p ≠ am) (e : H p = some o) (ef : F p = none) (nt : ∀ ps, o ≠ .tbl ps) : H1 p = some o ∧ F1 p = none := by
  have e1 := q.kept hp e nt
  refine ⟨e1, ?_⟩
  cases z : F1 p with
  | none => rfl
  | some u =>
    rcases q.new p (by rw [z]; simp) with y | y
    · exact absurd ef y
    · rw [e] at y
      cases y
theorem q_here (hs : starEach (e :: es) X.env = (false, eval e X.env) :: starEach es X.env) (he : PE X e (rd G W f)) (hr : PA X es (rdA G W ag)) : PA X (e :: es) (rdA1 G W (a1Here f ag)) := by
  refine PA.to (pa_cons he hr hs) fun σ H Q ⟨am, e0, rho, mu, F, s, o, mu', e1, kk⟩ => ?_
  unfold a1Here at e1
  split at e1
  · rename_i ds m h1
    refine ⟨am, e0, rho, mu, F, s, .ok (.fr ds), m, h1, ?_⟩
    intro p xs H1 F1 q n ep ef hp ra
    have hp1 : m = none ∨ p ≠ am := hp.imp (fun z => q.mm.mp z) id
    unfold M.bind at e1
    cases h2 : ag rho m with
    | none => rw [h2] at e1; cases e1
    | some z =>
      obtain ⟨o2, m2⟩ := z
      rw [h2] at e1
      refine ⟨am, e0, rho, m, F1, s.post q, o2, m2, h2, ?_⟩
      cases o2 with
      | ex c cs =>
        cases e1
        exact Kx.pre s.sub q kk
      | ok ds2 =>
        cases e1
        intro vs2 H2 F2 q2 r2
        obtain ⟨e2, f2⟩ := q2.keepP hp1 ep ef (fun _ z => by cases z)
        exact kk [] p xs vs2 H2 F2 (q.tr q2) n e2 f2 hp (ra.mono q2.fF) .nil r2
  · cases e1
theorem q_next (hs : starEach (e :: es) X.env = (false, eval e X.env) :: starEach es X.env) (he : PE X e (rd G W f)) (hr : PA X es (rdA1 G W og)) : PA X (e :: es) (rdA1 G W (a1Next f og)) := by
  refine PA.to (pa_cons he hr hs) fun σ H Q ⟨am, e0, rho, mu, F, s, o, mu', e1, kk⟩ => ?_
  refine rd_then s e1 (fun c ds z => by subst z; exact kk) fun vl m1 v H1 F1 e2 q s1 rv => ?_
  unfold M.bind at e2
  cases h2 : og rho m1 with
  | none => rw [h2] at e2; cases e2
  | some z =>
    obtain ⟨o2, m2⟩ := z
    rw [h2] at e2
    refine ⟨am, e0, rho, m1, F1, s1, o2, m2, h2, ?_⟩
    cases o2 with
    | ex c cs =>
      cases e2
      exact Kx.pre s.sub q kk
    | ok r =>
      cases e2
      intro vs1 p xs vs2 H2 F2 q2 n e3 f3 hp ra r1 r2
      exact kk (v :: vs1) p xs vs2 H2 F2 (q.tr q2) (q.fre n) e3 f3 (hp.imp (fun z => q.mm.mpr z) id) ra (.cons (rv.mono q2.fF) r1) r2
def putOwn : List Nat → List D × List D × List D → List Slot → Option (List Slot)
  | [i, j], ([], ds, [d]), rho => if i = j then none else some ((rho.set i (.ow (.lst ds))).set j (.va d))
  | [i, j], ([d], ds, []), rho => if i = j then none else some ((rho.set i (.va d)).set j (.ow (.lst ds)))
  | [i, j, l], ([], ds, [d, d']), rho => if i = j ∨ i = l ∨ j = l then none else some (((rho.set i (.ow (.lst ds))).set j (.va d)).set l (.va d'))
  | [i, j, l], ([d], ds, [d']), rho => if i = j ∨ i = l ∨ j = l then none else some (((rho.set i (.va d)).set j (.ow (.lst ds))).set l (.va d'))
  | [i, j, l], ([d, d'], ds, []), rho => if i = j ∨ i = l ∨ j = l then none else some (((rho.set i (.va d)).set j (.va d')).set l (.ow (.lst ds)))
  | _, _, _ => none
def setsL : List Nat → List V → L2.St → L2.St
  | i :: is, v :: vs, σ => setsL is vs (σ.set i (some v))
  | _, _, σ => σ
theorem none_some {α : Type} {c : Prop} [Decidable c] {a b : α} (h : (if c then none else some a) = some b) : ¬ c ∧ a = b := by
  split at h
  · cases h
  · rename_i hc
    cases h
    exact ⟨hc, rfl⟩
theorem own_fin {am : Addr} {e0 : En} {mu mu' : Mu} {H F H' F' : Hp} {rho rho' : List Slot} {σ : L2.St} {is : List Nat} {r : List D × List D × List D} {vs1 vs2 : List V} {p : Addr} {xs : List V} (s : Sta G am e0 rho mu σ H F) (q : Post G am mu H F mu' H' F') (n : H p = none) (e : H' p = some (.lst xs)) (ef : F' p = none) (hp : mu = none ∨ p ≠ am)
    (ra : RpAll G F' am xs r.2.1) (r1 : RpAll G F' am vs1 r.1) (r2 : RpAll G F' am vs2 r.2.2) (h : putOwn is r rho = some rho') : Sta G am e0 rho' mu' (setsL is (vs1 ++ .ref p :: vs2) σ) H' F' := by
  have own : ∀ i : Nat, Sta G am e0 (rho.set i (.ow (.lst r.2.1))) mu' (σ.set i (some (.ref p))) H' F' := fun i => s.setO (nw := fun _ _ z => by cases z) q n e ef hp ⟨xs, rfl, ra⟩
  unfold putOwn at h
  split at h
  · obtain ⟨hc, rfl⟩ := none_some h
    cases r1
    cases r2 with
    | cons q1 q2 =>
      cases q2
      exact (own _).set q1
  · obtain ⟨hc, rfl⟩ := none_some h
    cases r2
    cases r1 with
    | cons q1 q2 =>
      cases q2
      rw [List.set_comm _ _ hc]
      show Sta G am e0 _ mu' ((σ.set _ _).set _ _) H' F'
      rw [List.set_comm _ _ hc]
      exact (own _).set q1
  · obtain ⟨hc, rfl⟩ := none_some h
    cases r1
    cases r2 with
    | cons q1 q2 =>
      cases q2 with
      | cons q3 q4 =>
        cases q4
        exact ((own _).set q1).set q3
  · obtain ⟨hc, rfl⟩ := none_some h
    rw [not_or, not_or] at hc
    cases r1 with
    | cons q1 q2 =>
      cases q2
      cases r2 with
      | cons q3 q4 =>
        cases q4
        rw [List.set_comm (l := rho) _ _ hc.1]
        show Sta G am e0 _ mu' (((σ.set _ _).set _ _).set _ _) H' F'
        rw [List.set_comm (l := σ) _ _ hc.1]
        exact ((own _).set q1).set q3
  · obtain ⟨hc, rfl⟩ := none_some h
    rw [not_or, not_or] at hc
    cases r2
    cases r1 with
    | cons q1 q2 =>
      cases q2 with
      | cons q3 q4 =>
        cases q4
        rw [List.set_comm _ _ hc.2.2, List.set_comm (l := rho) _ _ hc.2.1]
        show Sta G am e0 _ mu' (((σ.set _ _).set _ _).set _ _) H' F'
        rw [List.set_comm _ _ hc.2.2, List.set_comm (l := σ) _ _ hc.2.1]
        exact ((own _).set q1).set q3
  · cases h
def sOwn (is : List Nat) (f : A1) : SM := sWith f fun r rho m => match putOwn is r rho with
  | some rho' => some (.fl .nx rho', m)
  | none => none
/-- the values, then what follows at the slots -/
theorem own_use {is : List Nat} {Dn : Ends} {σ : L2.St} {H : Hp} {Q : List V → Hp → Prop} (q : rdS G W (sOwn is og) Dn σ H) (hk : ∀ am e0 rho' mu' vs H' F', Sta G am e0 rho' mu' (setsL is vs σ) H' F' → vs.length = is.length → (∀ H2, Sta G am e0 rho' mu' (setsL is vs σ) H2 F' → Dn.nx (setsL is vs σ) H2) → Q vs H') : rdA1 G W og σ H Q := by
  obtain ⟨am, e0, rho, mu, F, s, r, mu', e, kk⟩ := q
  unfold sOwn sWith at e
  cases e1 : og rho mu with
  | none => rw [e1] at e; cases e
  | some z =>
    obtain ⟨o1, m1⟩ := z
    rw [e1] at e
    refine ⟨am, e0, rho, mu, F, s, o1, m1, e1, ?_⟩
    cases o1 with
    | ex c ds =>
      cases e
      exact kx_of s kk
    | ok r1 =>
      dsimp only at e
      cases e2 : putOwn is r1 rho with
      | none => rw [e2] at e; cases e
      | some rho' =>
        rw [e2] at e
        cases e
        intro vs1 p xs vs2 H' F' q n ep ef hp ra h1 h2
        refine hk am e0 rho' mu' _ H' F' (own_fin s q n ep ef hp ra h1 h2 e2) ?_ fun H2 s2 => kk _ H2 F' q.fF s2
        rw [List.length_append, List.length_cons, h1.length, h2.length]
        unfold putOwn at e2
        split at e2 <;> first | rfl | cases e2
theorem len2 {α : Type} {l : List α} (h : l.length = 2) : ∃ a b, l = [a, b] := by
  match l, h with
  | [a, b], _ => exact ⟨a, b, rfl⟩
theorem len3 {α : Type} {l : List α} (h : l.length = 3) : ∃ a b c, l = [a, b, c] := by
  match l, h with
  | [a, b, c], _ => exact ⟨a, b, c, rfl⟩
theorem s_own2 {i j : Nat} (h : PS X st (tPar i j (rdA1 G W og))) : PS X st (rdS G W (sOwn [i, j] og)) :=
  PS.to h fun Dn σ H q => own_use q fun am e0 rho' mu' vs H' F' s hl kk => by
    obtain ⟨v, w, rfl⟩ := len2 hl
    exact ⟨v, w, rfl, kk H' s⟩
theorem s_own3 {i j l : Nat} (h : PS X st (tPar3 i j l (rdA1 G W og))) : PS X st (rdS G W (sOwn [i, j, l] og)) :=
  PS.to h fun Dn σ H q => own_use q fun am e0 rho' mu' vs H' F' s hl kk => by
    obtain ⟨v, w, u, rfl⟩ := len3 hl
    exact ⟨v, w, u, rfl, kk H' s⟩
theorem gAll_sets {H : Hp} {Q : L2.St → Hp → Prop} : ∀ {is : List Nat} {vs : List V} {σ : L2.St}, vs.length = is.length → Q (setsL is vs σ) H → gAll is vs σ H Q
  | [], [], _, _, h => ⟨rfl, h⟩
  | [], _ :: _, _, h, _ => by cases h
  | _ :: _, [], _, h, _ => by cases h
  | i :: is, v :: vs, σ, h, q => ⟨v, vs, rfl, gAll_sets (is := is) (Nat.succ.inj h) q⟩
theorem s_ownU {is : List Nat} {n : Nat} (hn : is.length = n) (h3 : n ≤ 3) (fx : Fx0 X G W) (h : PS X st (tAsg (tTup (rdA1 G W og)) (gTup X.K n (gAll is)))) : PS X st (rdS G W (sOwn is og)) :=
  PS.to h fun Dn σ H q => own_use q fun am e0 rho' mu' vs H' F' s hl kk => by
    refine ⟨?_, fun T hT => ⟨T, vs, rfl, .inl (.inl upd_same), hl.trans hn, gAll_sets hl (kk _ (s.post (Post.lay s.sub s.mr hT)))⟩⟩
    rw [hl, hn]
    exact Nat.le_trans h3 (by decide)
theorem q_ownU {es ts : List Expr} {kt kt2 : Nat} {pt pt2 : Pos} (is : List Nat) {n : Nat} (hn : is.length = n) (h3 : n ≤ 3) (fx : Fx gb X G W k) (hm : (assignEach ts X.env).length = n) (hst : (assignEach ts X.env).findIdx? (·.1) = none)
    (hs : swapsWithSole [.Tuple ts kt pt] (.Tuple es kt2 pt2) pos.line X.env = pure false) (hw : swappedStores [.Tuple ts kt pt] (.Tuple es kt2 pt2) X.env = pure none) (h1 : (assignEach [.Tuple ts kt pt] X.env).map (·.2) = [assign (.Tuple ts kt pt) X.env]) (ha : PA X es (rdA1 G W og)) (hgs : PGs X ts (gAll is)) :
    PS X (.Assign [.Tuple ts kt pt] (.Tuple es kt2 pt2) pos) (rdS G W (sOwn is og)) := s_ownU hn h3 fx (ps_asg (pe_tup ha) (pg_tup fx.calm hgs hm hst) hs hw h1)
end
end Mi
end
section
set_option Elab.async false
set_option linter.all false
set_option maxRecDepth 100000
set_option maxHeartbeats 4000000
namespace Mi
open PySem PySem.Spec PyProof.Rows L2
open Evl (Ex)
/-! ### list(range(..)), tuple(range(..)) -/
def rgD (a b : Int) : List D := (List.range (b - a).toNat).map fun i => D.int (a + (i : Nat))
theorem rgD_ok {G : Cl} {F : Hp} {am : Addr} (a b : Int) : RpAll G F am (rgV a b) (rgD a b) := by
  unfold rgV rgD
  generalize List.range (b - a).toNat = l
  induction l with
  | nil => exact .nil
  | cons i l ih => exact .cons (.int _) ih
def rgSm (a b : Int) : Bool := decide (-10000000 ≤ a) && decide (a ≤ 10000000) && decide (-10000000 ≤ b) && decide (b ≤ 10000000) && decide ((b - a).toNat ≤ 16777216)
theorem rgSm_ok {a b : Int} (h : rgSm a b = true) : RgOk a b := by
  unfold rgSm at h
  simp only [Bool.and_eq_true, decide_eq_true_eq] at h
  exact ⟨by omega, by omega, by omega, by omega, by omega⟩
def mkRg (t : Bool) (x y : D) : Option Vl := match x, y with
  | .int a, .int b => if rgSm a b = true then some (if t = true then .fz (.tup (rgD a b)) else .fr (rgD a b)) else none
  | _, _ => none
def eRg1 (t : Bool) (f : EM) : EM := fun rho => M.bind (f rho) fun x => M.of (mkRg t (.int 0) x.d)
def eRg2 (t : Bool) (f g : EM) : EM := fun rho => M.bind (f rho) fun x => M.bind (g rho) fun y => M.of (mkRg t x.d y.d)
theorem mkRg_some {t : Bool} {x y : D} {vl : Vl} (h : mkRg t x y = some vl) : ∃ a b, x = .int a ∧ y = .int b ∧ RgOk a b ∧ vl = (if t = true then .fz (.tup (rgD a b)) else .fr (rgD a b)) := by
  cases x with
  | int a =>
    cases y with
    | int b =>
      obtain ⟨h1, rfl⟩ := ite_some (show (if rgSm a b = true then some (if t = true then Vl.fz (.tup (rgD a b)) else .fr (rgD a b)) else none) = some vl from h)
      exact ⟨a, b, rfl, rfl, rgSm_ok h1, rfl⟩
    | _ => cases h
  | _ => cases h
section
variable {gb : Bool} {X : Cx} {G : Cl} {W : WX} {k : Nat} {pos : Pos} {a b c e : Expr} {f g h : EM} {x : Str} {ag : AM} {es : List Expr} {tf : BM} {st : Stmt}
theorem PRg.to {t t' : L2.St → Hp → (Int → Int → Hp → Prop) → Prop} (h : PRg X e t) (k : ∀ σ H Q, t' σ H Q → t σ H Q) : PRg X e t' := fun pins s σ H Q I q => h pins s σ H Q I (k σ H Q q)
/-- the two bounds, at a state -/
def rgT1 (G : Cl) (W : WX) (f : EM) : L2.St → Hp → (Int → Int → Hp → Prop) → Prop := tRg1 (rd G W f)
theorem q_listR1 {p p2 q : Pos} (fx : Fx gb X G W k) (hg : Gl X "list") (hm : X.mg "list" = none) (hgr : Gl X "range") (hmr : X.mg "range" = none) (na : starEach [.Call (.Name "range" p2) [a] [] q] X.env = (false, eval (.Call (.Name "range" p2) [a] [] q) X.env) :: starEach [] X.env) (nb : starEach [a] X.env = (false, eval a X.env) :: starEach [] X.env) (ha : PE X a (rd G W f)) :
    PE X (.Call (.Name "list" p) [.Call (.Name "range" p2) [a] [] q] [] pos) (rd G W (eRg1 false f)) := by
  refine PE.to (pe_listRg fx.calm hg hm (prg_1 hgr hmr ha nb) na) fun σ H Q ⟨am, e0, rho, mu, F, s, o, mu', e1, kk⟩ => ?_
  refine rd_then s e1 (Ko.x kk) fun vl m1 v H1 F1 e2 po s1 rv => ?_
  obtain ⟨z, hz, rfl, rfl⟩ := of_some e2
  obtain ⟨a0, b0, ha0, hb0, ok, rfl⟩ := mkRg_some hz
  rw [hb0] at rv
  cases ha0
  cases rv
  exact ⟨b0, rfl, ok, fun r free => Kd.lst s1.sub s1.mr (rgD_ok 0 b0) free (Kd.pre s.sub s.mr po kk)⟩
theorem q_tupR1 {p p2 q : Pos} (fx : Fx gb X G W k) (hg : Gl X "tuple") (hm : X.mg "tuple" = none) (hgr : Gl X "range") (hmr : X.mg "range" = none) (na : starEach [.Call (.Name "range" p2) [a] [] q] X.env = (false, eval (.Call (.Name "range" p2) [a] [] q) X.env) :: starEach [] X.env) (nb : starEach [a] X.env = (false, eval a X.env) :: starEach [] X.env) (ha : PE X a (rd G W f)) :
    PE X (.Call (.Name "tuple" p) [.Call (.Name "range" p2) [a] [] q] [] pos) (rd G W (eRg1 true f)) := by
  refine PE.to (pe_tupRg fx.calm hg hm (prg_1 hgr hmr ha nb) na) fun σ H Q ⟨am, e0, rho, mu, F, s, o, mu', e1, kk⟩ => ?_
  refine rd_then s e1 (Ko.x kk) fun vl m1 v H1 F1 e2 po s1 rv => ?_
  obtain ⟨z, hz, rfl, rfl⟩ := of_some e2
  obtain ⟨a0, b0, ha0, hb0, ok, rfl⟩ := mkRg_some hz
  rw [hb0] at rv
  cases ha0
  cases rv
  exact ⟨b0, rfl, ok, fun r free => Kd.tup s1.sub s1.mr (rgD_ok 0 b0) free (Kd.pre s.sub s.mr po kk)⟩
theorem q_listR2 {p p2 q : Pos} (fx : Fx gb X G W k) (hg : Gl X "list") (hm : X.mg "list" = none) (hgr : Gl X "range") (hmr : X.mg "range" = none) (na : starEach [.Call (.Name "range" p2) [a, b] [] q] X.env = (false, eval (.Call (.Name "range" p2) [a, b] [] q) X.env) :: starEach [] X.env) (nb : starEach [a, b] X.env = (false, eval a X.env) :: starEach [b] X.env) (nc : starEach [b] X.env = (false, eval b X.env) :: starEach [] X.env)
    (hp : (backTo q (starEach [b] X.env)).any (·.1) = false) (ha : PE X a (rd G W f)) (hb : PE X b (rd G W g)) : PE X (.Call (.Name "list" p) [.Call (.Name "range" p2) [a, b] [] q] [] pos) (rd G W (eRg2 false f g)) := by
  refine PE.to (pe_listRg fx.calm hg hm (prg_2 hgr hmr ha hb nb nc hp) na) fun σ H Q ⟨am, e0, rho, mu, F, s, o, mu', e1, kk⟩ => ?_
  refine rd_then s e1 (Ko.x kk) fun vx m1 v H1 F1 e2 po s1 rv => ?_
  refine rd_then s1 e2 (Ko.x (Ko.pre s.sub s.mr po kk)) fun vy m2 v2 H2 F2 e3 po2 s2 rv2 => ?_
  obtain ⟨z, hz, rfl, rfl⟩ := of_some e3
  obtain ⟨a0, b0, ha0, hb0, ok, rfl⟩ := mkRg_some hz
  rw [ha0] at rv
  rw [hb0] at rv2
  cases rv
  cases rv2
  exact ⟨a0, b0, rfl, rfl, ok, fun r free => Kd.lst s2.sub s2.mr (rgD_ok a0 b0) free (Kd.pre s1.sub s1.mr po2 (Kd.pre s.sub s.mr po kk))⟩
theorem q_tupR2 {p p2 q : Pos} (fx : Fx gb X G W k) (hg : Gl X "tuple") (hm : X.mg "tuple" = none) (hgr : Gl X "range") (hmr : X.mg "range" = none) (na : starEach [.Call (.Name "range" p2) [a, b] [] q] X.env = (false, eval (.Call (.Name "range" p2) [a, b] [] q) X.env) :: starEach [] X.env) (nb : starEach [a, b] X.env = (false, eval a X.env) :: starEach [b] X.env) (nc : starEach [b] X.env = (false, eval b X.env) :: starEach [] X.env)
    (hp : (backTo q (starEach [b] X.env)).any (·.1) = false) (ha : PE X a (rd G W f)) (hb : PE X b (rd G W g)) : PE X (.Call (.Name "tuple" p) [.Call (.Name "range" p2) [a, b] [] q] [] pos) (rd G W (eRg2 true f g)) := by
  refine PE.to (pe_tupRg fx.calm hg hm (prg_2 hgr hmr ha hb nb nc hp) na) fun σ H Q ⟨am, e0, rho, mu, F, s, o, mu', e1, kk⟩ => ?_
  refine rd_then s e1 (Ko.x kk) fun vx m1 v H1 F1 e2 po s1 rv => ?_
  refine rd_then s1 e2 (Ko.x (Ko.pre s.sub s.mr po kk)) fun vy m2 v2 H2 F2 e3 po2 s2 rv2 => ?_
  obtain ⟨z, hz, rfl, rfl⟩ := of_some e3
  obtain ⟨a0, b0, ha0, hb0, ok, rfl⟩ := mkRg_some hz
  rw [ha0] at rv
  rw [hb0] at rv2
  cases rv
  cases rv2
  exact ⟨a0, b0, rfl, rfl, ok, fun r free => Kd.tup s2.sub s2.mr (rgD_ok a0 b0) free (Kd.pre s1.sub s1.mr po2 (Kd.pre s.sub s.mr po kk))⟩
end
end Mi
end
section
set_option Elab.async false
set_option linter.all false
set_option maxRecDepth 100000
set_option maxHeartbeats 4000000
namespace Mi
open PySem PySem.Spec PyProof.Rows L2
open Evl (Ex)
/-! ### zip of two lists, of two tuples -/
section
variable {gb : Bool} {X : Cx} {G : Cl} {W : WX} {k : Nat} {pos : Pos} {a b c e : Expr} {f g h : EM} {x : Str} {ag : AM} {es : List Expr} {tf : BM} {st : Stmt} {sf : SM} {am : Addr} {e0 : En} {H F H' F' H1 F1 : Hp} {rho : List Slot} {mu mu' m1 : Mu} {σ : L2.St}
theorem lc_turnF {put : D → List Slot → Option (List Slot)} {gt : TG} {vs : List Nat} {Dl : Addr} {d : D} {ds out : List D} {x : V} {Pn : Hp → Prop} {F' : Hp} {m' : Mu} {acc : List V} {das : List D} (hg : TgLc G gt put vs) (s : Sta G am e0 rho mu σ H F) (nD : H Dl = none) (hD : mu = none ∨ Dl ≠ am)
    (q : Post G am mu H F m' H' F') (hd : H' Dl = some (.lst acc)) (nf : F' Dl = none) (ra : RpAll G F' am acc das) (e : lcL put tf f (wipeR rho vs) (d :: ds) das m' = some (out, mu')) (hx : Rp G F' am x d) (k : ∀ H2, Lc G am mu H F put tf f (wipeR rho vs) Dl ds out mu' H2 → Pn H2) :
    gt x (L2.wipe σ vs) H' fun σ2 H2 => L2.wipe σ2 vs = L2.wipe σ vs ∧ rdT G WN tf σ2 H2 fun b H3 => if b = true then rd G WN f σ2 H3 fun y H4 => ∃ acc, H4 Dl = some (.lst acc) ∧ acc.length < sizeLine ∧ Pn (upd H4 Dl (.lst (acc ++ [y]))) else Pn H3 := by
  obtain ⟨rho', b, m2, e1, e2, e3⟩ := lcL_cons e
  have s' := (s.post q).wipe vs
  refine hg am e0 _ rho' m' _ H' F' x d _ s' hx e1 fun σ2 s2 hw => ⟨hw.trans wipe_wipe, ?_⟩
  have hD' : m' = none ∨ Dl ≠ am := hD.imp (fun z => q.mm.mp z) id
  have stay : ∀ {m3 : Mu} {H3 F3 : Hp}, Post G am m' H' F' m3 H3 F3 → H3 Dl = some (.lst acc) ∧ F3 Dl = none := fun {m3 H3 F3} q3 => by
    refine ⟨q3.kept hD' hd (fun _ z => by cases z), ?_⟩
    cases z : F3 Dl with
    | none => rfl
    | some o =>
      rcases q3.new Dl (by rw [z]; simp) with y | y
      · exact absurd nf y
      · rw [hd] at y; cases y
  refine ⟨am, e0, rho', m', F', s2, _, m2, e2, fun H3 F3 q3 => ?_⟩
  obtain ⟨h3, n3⟩ := stay q3
  rcases e3 with ⟨rfl, v, m4, e4, hc, e5⟩ | ⟨rfl, e5⟩
  · show rd G WN f σ2 H3 _
    refine ⟨am, e0, rho', m2, F3, s2.post q3, _, m4, e4, Kd.use fun y H4 F4 q4 r4 => ?_⟩
    obtain ⟨h4, n4⟩ := stay (q3.trans s'.sub q4)
    refine ⟨acc, h4, Evl.sz_lt (by rw [ra.length]; exact hc), k _ ⟨F4, m4, acc ++ [y], das ++ [v.d], ?_, upd_same, n4, ?_, e5⟩⟩
    · exact ((q.trans s.sub q3).trans s.sub q4).chg nD n4 hD h4
    · exact ((ra.mono q3.fF).mono q4.fF).append (.cons r4 .nil)
  · exact k H3 ⟨F3, m2, acc, das, q.trans s.sub q3, h3, n3, ra.mono q3.fF, e5⟩

/-- an iterator of pairs: the items xs, ys as they stand while F1 lasts -/
structure ZipIt (J : It) (F1 : Hp) (xs ys : List V) : Prop where
  go : ∀ i H' x y, Ex F1 H' → xs[i]? = some x → ys[i]? = some y → J.go i H'
  yl : ∀ i H' v H2, Ex F1 H' → J.yld i H' v H2 → ∃ T x y, v = .ref T ∧ H' T = none ∧ H2 = upd H' T (.tup [x, y]) ∧ xs[i]? = some x ∧ ys[i]? = some y
  st : ∀ i H', Ex F1 H' → i = min xs.length ys.length → J.stop i H'
theorem zip_itL {K : PySem.W.Frag} {p q : Addr} {xs ys : List V} (h1 : SqL K F1 p xs) (h2 : SqL K F1 q ys) : ZipIt (Itz K p q) F1 xs ys :=
  ⟨fun i H' x y z e1 e2 => ⟨xs, ys, x, y, Evl.ex_l z h1, Evl.ex_l z h2, e1, e2⟩, fun i H' v H2 z h => let ⟨T, x, y, e1, e2, e3, e4, e5⟩ := h; ⟨T, x, y, e1, e2, e3, e4 xs (Evl.ex_l z h1), e5 ys (Evl.ex_l z h2)⟩, fun i H' z h => ⟨xs, ys, Evl.ex_l z h1, Evl.ex_l z h2, by omega⟩⟩
theorem zip_itT {K : PySem.W.Frag} {p q : Addr} {xs ys : List V} (h1 : SqT K F1 p xs) (h2 : SqT K F1 q ys) : ZipIt (RZ.ItzT K p q) F1 xs ys :=
  ⟨fun i H' x y z e1 e2 => ⟨xs, ys, x, y, Evl.ex_t z h1, Evl.ex_t z h2, e1, e2⟩, fun i H' v H2 z h => let ⟨T, x, y, e1, e2, e3, e4, e5⟩ := h; ⟨T, x, y, e1, e2, e3, e4 xs (Evl.ex_t z h1), e5 ys (Evl.ex_t z h2)⟩, fun i H' z h => ⟨xs, ys, Evl.ex_t z h1, Evl.ex_t z h2, by omega⟩⟩
def zipD (xs ys : List D) : List D := List.zipWith (fun x y => .tup [x, y]) xs ys
theorem zipD_at {xs ys : List D} {i : Nat} {x y : D} (h1 : xs[i]? = some x) (h2 : ys[i]? = some y) : (zipD xs ys)[i]? = some (.tup [x, y]) := by
  unfold zipD
  rw [List.getElem?_zipWith, h1, h2]
theorem zipD_len (xs ys : List D) : (zipD xs ys).length = min xs.length ys.length := by
  unfold zipD
  rw [List.length_zipWith]
theorem zip_go {gt : TG} {put : D → List Slot → Option (List Slot)} {J : It} {xs ys : List V} {dxs dys : List D} (hg : TgOk G gt put) (Z : ZipIt J F xs ys) (rx : RpAll G F am xs dxs) (ry : RpAll G F am ys dys) {Dn : Ends} {r : Res} (s : Sta G am e0 rho mu σ H F) (e : forL (sBody put sf) (zipD dxs dys) rho mu = some (r, mu')) (kk : KoS G W am e0 F mu' Dn r) :
    ∃ Wv : Nat → Nat → L2.St → Hp → Prop, (∃ m, Wv 0 m σ H) ∧ ∀ i m σ H, Wv i m σ H → (J.stop i H ∧ Dn.nx σ H) ∨ (J.go i H ∧ ∃ N : L2.St → Hp → Prop, (∀ σ' H', N σ' H' → ∃ m', m' < m ∧ Wv (i + 1) m' σ' H') ∧ ∀ x H', J.yld i H x H' → gt x σ H' fun σ2 H2 => rdS G W sf { Dn with nx := N, ct := N, bk := Dn.nx } σ2 H2) := by
  refine ⟨fun i m σ' H' => m + i = (zipD dxs dys).length ∧ ∃ (rho' : List Slot) (m' : Mu) (F' : Hp), Ex F F' ∧ Sta G am e0 rho' m' σ' H' F' ∧ forL (sBody put sf) ((zipD dxs dys).drop i) rho' m' = some (r, mu') ∧ KoS G W am e0 F' mu' Dn r, ⟨_, Nat.add_zero _, rho, mu, F, Ex.refl F, s, e, kk⟩, ?_⟩
  rintro i m σ' H' ⟨hm, rho', m', F', q', s', e', k'⟩
  have hx := rx.length
  have hy := ry.length
  have hl := zipD_len dxs dys
  by_cases hi : i < (zipD dxs dys).length
  · right
    have i1 : i < xs.length := by omega
    have i2 : i < ys.length := by omega
    refine ⟨Z.go i H' _ _ (q'.trans s'.sub) (List.getElem?_eq_getElem i1) (List.getElem?_eq_getElem i2), fun σ2 H2 => ∃ (rho2 : List Slot) (m2 : Mu) (F2 : Hp), Ex F F2 ∧ Sta G am e0 rho2 m2 σ2 H2 F2 ∧ forL (sBody put sf) ((zipD dxs dys).drop (i + 1)) rho2 m2 = some (r, mu') ∧ KoS G W am e0 F2 mu' Dn r, fun σ2 H2 z => ⟨m - 1, by omega, by omega, z⟩, ?_⟩
    intro v H2 hyl
    obtain ⟨T, x, y, rfl, nT, rfl, e1, e2⟩ := Z.yl i H' v H2 (q'.trans s'.sub) hyl
    obtain ⟨dx, d1, r1⟩ := rx.getV e1
    obtain ⟨dy, d2, r2⟩ := ry.getV e2
    have lay := Post.layF (o := .tup [x, y]) s'.sub s'.mr nT
    have s2 := s'.post lay
    have q2 : Ex F (upd F' T (.tup [x, y])) := q'.trans lay.fF
    have rT : Rp G (upd F' T (.tup [x, y])) am (.ref T) (.tup [dx, dy]) := .tup (.inl (.inl upd_same)) (.cons (r1.mono q2) (.cons (r2.mono q2) .nil))
    rw [getD_drop (zipD_at d1 d2)] at e'
    refine forL_turn (Tu := fun D σ H => gt (.ref T) σ H fun σ2 H2 => rdS G W sf D σ2 H2) e' (KoS.pre lay.fF k') (fun σ3 H3 F3 rho3 m3 q3 s3 e3 k3 => ⟨rho3, m3, F3, q2.trans q3, s3, e3, k3⟩) fun r1 m2 e3 k3 => ?_
    unfold sBody at e3
    cases hp : put (.tup [dx, dy]) rho' with
    | none => rw [hp] at e3; cases e3
    | some rho2 =>
      rw [hp] at e3
      exact hg am e0 rho' rho2 m' σ' _ _ (.ref T) _ _ s2 rT hp fun σ3 s3 => ⟨am, e0, rho2, m', _, s3, r1, m2, e3, k3⟩
  · left
    refine ⟨Z.st i H' (q'.trans s'.sub) (by omega), ?_⟩
    rw [List.drop_eq_nil_of_le (by omega)] at e'
    cases e'
    exact k' σ' H' F' (Ex.refl F') s'
/-- what zip is given -/
def zipA2 : List D → Option (List D)
  | [x, y] => match seqD x, seqD y with
    | some dx, some dy => some (zipD dx dy)
    | _, _ => (match tupD x, tupD y with
      | some dx, some dy => some (zipD dx dy)
      | _, _ => none)
  | _ => none
theorem zip_at {vs : List V} {ds zs : List D} (sub : Ex F H) (r : RpAll G F am vs ds) (h : zipA2 ds = some zs) : ∃ p q xs ys dxs dys, vs = [.ref p, .ref q] ∧ zs = zipD dxs dys ∧ RpAll G F am xs dxs ∧ RpAll G F am ys dys ∧ ((SqL G.K F p xs ∧ SqL G.K F q ys) ∨ (SqT G.K F p xs ∧ SqT G.K F q ys)) := by
  unfold zipA2 at h
  split at h
  · rename_i x y
    cases r with
    | cons r1 rr =>
      cases rr with
      | cons r2 rr =>
        cases rr
        split at h
        · rename_i dx dy e1 e2
          cases h
          obtain ⟨p, xs, rfl, h1, h2⟩ := seqD_at r1 e1
          obtain ⟨q, ys, rfl, h3, h4⟩ := seqD_at r2 e2
          exact ⟨p, q, xs, ys, dx, dy, rfl, rfl, h2, h4, .inl ⟨h1, h3⟩⟩
        · split at h
          · rename_i dx dy e1 e2
            cases h
            obtain ⟨p, xs, rfl, h1, h2⟩ := tupD_at r1 e1
            obtain ⟨q, ys, rfl, h3, h4⟩ := tupD_at r2 e2
            exact ⟨p, q, xs, ys, dx, dy, rfl, rfl, h2, h4, .inr ⟨h1, h3⟩⟩
          · cases h
  · cases h
def sForZ (f : AM) (body : D → SM) : SM := sWith f fun ds rho mu => match zipA2 ds with
  | some zs => forL body zs rho mu
  | none => none
theorem s_forZ {gt : TG} {put : D → List Slot → Option (List Slot)} (hK : X.K = G.K) (h : PS X st (tFor (RZ.iZipA X.K (rdA G W ag)) gt (rdS G W sf))) (hg : TgOk G gt put) : PS X st (rdS G W (sForZ ag (sBody put sf))) := by
  refine PS.to h fun Dn σ H ⟨am, e0, rho, mu, F, s, r, mu', e, kk⟩ => ?_
  refine with_useA s e kk fun ds m1 vs H1 F1 e1 q s1 rv k1 => ?_
  cases hz : zipA2 ds with
  | none => rw [hz] at e1; cases e1
  | some zs =>
    rw [hz] at e1
    obtain ⟨p, q2, xs, ys, dxs, dys, rfl, rfl, rx, ry, hh⟩ := zip_at s1.sub rv hz
    rw [hK]
    rcases hh with ⟨h1, h2⟩ | ⟨h1, h2⟩
    · exact ⟨p, q2, xs, ys, rfl, .inl ⟨Evl.ex_l s1.sub h1, Evl.ex_l s1.sub h2, zip_go hg (zip_itL h1 h2) rx ry s1 e1 k1⟩⟩
    · exact ⟨p, q2, xs, ys, rfl, .inr ⟨Evl.ex_t s1.sub h1, Evl.ex_t s1.sub h2, zip_go hg (zip_itT h1 h2) rx ry s1 e1 k1⟩⟩
def eLcZ (fi : AM) (put : D → List Slot → Option (List Slot)) (vs : List Nat) (t : BM) (f : EM) : EM := fun rho => M.bind (fi rho) fun v => fun mu => match zipA2 v with
  | some zs => (match lcL put t f (wipeR rho vs) zs [] mu with
    | some (out, mu') => some (.ok (.fr out), mu')
    | none => none)
  | none => none
theorem lcz_go {gt : TG} {put : D → List Slot → Option (List Slot)} {vs : List Nat} {J : It} {xs ys : List V} {dxs dys out : List D} {Dl : Addr} {Q : VK} (hg : TgLc G gt put vs) (Z : ZipIt J F xs ys) (rx : RpAll G F am xs dxs) (ry : RpAll G F am ys dys) (s1 : Sta G am e0 rho mu σ H F) (nD : H Dl = none)
    (e2 : lcL put tf f (wipeR rho vs) (zipD dxs dys) [] mu = some (out, mu')) (kk : Kd G am mu H F mu' Q (.fr out)) :
    ∃ Wv : Nat → Nat → Hp → Prop, (∃ m, Wv 0 m (upd H Dl (.lst []))) ∧ ∀ i m H, Wv i m H → (J.stop i H ∧ Q (.ref Dl) H) ∨ (J.go i H ∧ ∃ Nx : Hp → Prop, (∀ H', Nx H' → ∃ m', m' < m ∧ Wv (i + 1) m' H') ∧ ∀ x H', J.yld i H x H' → gt x (L2.wipe σ vs) H' fun σ2 H2 => L2.wipe σ2 vs = L2.wipe σ vs ∧ rdT G WN tf σ2 H2 fun b H3 =>
      if b = true then rd G WN f σ2 H3 fun y H4 => ∃ acc, H4 Dl = some (.lst acc) ∧ acc.length < sizeLine ∧ Nx (upd H4 Dl (.lst (acc ++ [y]))) else Nx H3) := by
  have hD := new_ne s1.mr nD
  have hx := rx.length
  have hy := ry.length
  have hl := zipD_len dxs dys
  refine ⟨fun i m H' => m + i = (zipD dxs dys).length ∧ Lc G am mu H F put tf f (wipeR rho vs) Dl ((zipD dxs dys).drop i) out mu' H', ⟨_, Nat.add_zero _, lc_start (s1.wipe vs) nD e2⟩, ?_⟩
  rintro i m H' ⟨hm, w⟩
  by_cases hi : i < (zipD dxs dys).length
  · right
    have i1 : i < xs.length := by omega
    have i2 : i < ys.length := by omega
    obtain ⟨F', m', acc, das, q, hd, nf, ra, e⟩ := w
    have ex : Ex F H' := q.fF.trans q.sub
    refine ⟨Z.go i H' _ _ ex (List.getElem?_eq_getElem i1) (List.getElem?_eq_getElem i2), fun H2 => Lc G am mu H F put tf f (wipeR rho vs) Dl ((zipD dxs dys).drop (i + 1)) out mu' H2, fun H2 z => ⟨m - 1, by omega, by omega, z⟩, ?_⟩
    intro v H2 hyl
    obtain ⟨T, x, y, rfl, nT, rfl, e3, e4⟩ := Z.yl i H' v H2 ex hyl
    obtain ⟨dx, d1, r1⟩ := rx.getV e3
    obtain ⟨dy, d2, r2⟩ := ry.getV e4
    have lay := Post.layF (o := .tup [x, y]) q.sub q.mr nT
    have q2 : Ex F (upd F' T (.tup [x, y])) := q.fF.trans lay.fF
    have rT : Rp G (upd F' T (.tup [x, y])) am (.ref T) (.tup [dx, dy]) := .tup (.inl (.inl upd_same)) (.cons (r1.mono q2) (.cons (r2.mono q2) .nil))
    have nDT : Dl ≠ T := fun z => by
      rw [z, nT] at hd
      cases hd
    rw [getD_drop (zipD_at d1 d2)] at e
    exact lc_turnF hg s1 nD hD (q.tr lay) (by rw [upd_ne nDT]; exact hd) (by rw [upd_ne nDT]; exact nf) (ra.mono lay.fF) e rT fun H2 w2 => w2
  · left
    refine ⟨?_, ?_⟩
    · obtain ⟨F', m', acc, das, q, _⟩ := w
      exact Z.st i H' (q.fF.trans q.sub) (by omega)
    · rw [List.drop_eq_nil_of_le (by omega)] at w
      exact lc_end nD hD w kk
theorem lcZ_to {gt : TG} {put : D → List Slot → Option (List Slot)} {vs : List Nat} (hK : X.K = G.K) (hg : TgLc G gt put vs) {Q : VK} (q : rd G W (eLcZ ag put vs tf f) σ H Q) : tLc (RZ.iZipA X.K (rdA G W ag)) gt (rdT G WN tf) (rd G WN f) vs σ H Q := by
  obtain ⟨am, e0, rho, mu, F, s, o, mu', e, kk⟩ := q
  refine rdA_then s e kk.x fun ds m1 xs0 H1 F1 e1 q s1 rv => ?_
  cases hz : zipA2 ds with
  | none => rw [hz] at e1; cases e1
  | some zs =>
    rw [hz] at e1
    obtain ⟨out, rfl, e2⟩ := lc_out e1
    obtain ⟨p, q2, xs, ys, dxs, dys, rfl, rfl, rx, ry, hh⟩ := zip_at s1.sub rv hz
    rw [hK]
    have k1 := Kd.pre s.sub s.mr q (show Kd G am mu H F mu' Q (.fr out) from kk)
    rcases hh with ⟨h1, h2⟩ | ⟨h1, h2⟩
    · exact ⟨p, q2, xs, ys, rfl, .inl ⟨Evl.ex_l s1.sub h1, Evl.ex_l s1.sub h2, fun Dl nD => lcz_go hg (zip_itL h1 h2) rx ry s1 nD e2 k1⟩⟩
    · exact ⟨p, q2, xs, ys, rfl, .inr ⟨Evl.ex_t s1.sub h1, Evl.ex_t s1.sub h2, fun Dl nD => lcz_go hg (zip_itT h1 h2) rx ry s1 nD e2 k1⟩⟩
/-! the rules -/
section
variable {elt : Expr} {ifs elts : List Expr} {scope : Scope} {own : List (Str × Nat)} {gt : TG} {put : D → List Slot → Option (List Slot)} {y : Str} {py spos tpos : Pos} {i kz : Nat} {p p2 : Pos}
theorem q_forZ {body : List Stmt} (fx : Fx gb X G W k) (hgl : Gl X "zip") (hm : X.mg "zip" = none) (hst : starEach [a, b] X.env = (false, eval a X.env) :: starEach [b] X.env) (hpl : (backTo p2 (starEach [b] X.env)).any (·.1) = false) (hs : ∀ x, foldedSetIterable (.Call (.Name "zip" p) [a, b] [] p2) X.env x = pure x)
    (ha : PA X [a, b] (rdA G W ag)) (hgg : PG X (.Tuple elts kz tpos) gt) (hg : TgOk G gt put) (hb : PSs X body (rdS G W sf)) : PS X (.For (.Tuple elts kz tpos) (.Call (.Name "zip" p) [a, b] [] p2) body [] pos) (rdS G W (sForZ ag (sBody put sf))) :=
  s_forZ fx.hK (ps_for fx.po fx.calm (RZ.pi_zipA hgl hm ha hst hpl) hgg hb hs) hg
theorem q_lcZ (own : List (Str × Nat)) (fx : Fx gb X G W k) (hN : X.N.Nodup) (hgl : Gl X "zip") (hm : X.mg "zip" = none) (hst : starEach [a, b] X.env = (false, eval a X.env) :: starEach [b] X.env) (hpl : (backTo p2 (starEach [b] X.env)).any (·.1) = false) (hs : ∀ x, foldedSetIterable (.Call (.Name "zip" p) [a, b] [] p2) X.env x = pure x) (ok : blkC X.N X.env.scope scope own = true)
    (ha : PA X [a, b] (rdA G W ag)) (hgg : Bk gb X G k scope fun Y => PG Y (.Tuple elts kz tpos) gt) (hg : TgLc G gt put (own.map (·.2))) (ht : Bk gb X G k scope fun Y => PTs Y ifs (rdT G WN tf)) (he : Bk gb X G k scope fun Y => PE Y elt (rd G WN f)) :
    PE X (.ListComp elt [⟨.Tuple elts kz tpos, .Call (.Name "zip" p) [a, b] [] p2, ifs, 0⟩] scope pos) (rd G W (eLcZ ag put (own.map (·.2)) tf f)) :=
  PE.to (pe_lc fx.calm hN (RZ.pi_zipA hgl hm ha hst hpl) (blkOk_by ok) (fun s H C cl fp => hgg s H C cl fp (fx.blk ..)) (fun s H C cl fp => ht s H C cl fp (fx.blk ..)) (fun s H C cl fp => he s H C cl fp (fx.blk ..)) hs) fun _ _ _ q => lcZ_to fx.hK hg q
theorem r_lcZ (own : List (Str × Nat)) (fx : Fx gb X G W k) (hN : X.N.Nodup) (hy : X.N[i]? = some y) (hyl : X.env.scope.names.lookup y = some .local) (hsw : swapsWith (.ListComp elt [⟨.Tuple elts kz tpos, .Call (.Name "zip" p) [a, b] [] p2, ifs, 0⟩] scope pos) (some (.Name y py)) spos.line X.env = pure true)
    (hgl : Gl X "zip") (hm : X.mg "zip" = none) (hst : starEach [a, b] X.env = (false, eval a X.env) :: starEach [b] X.env) (hpl : (backTo p2 (starEach [b] X.env)).any (·.1) = false) (hs : ∀ x, foldedSetIterable (.Call (.Name "zip" p) [a, b] [] p2) X.env x = pure x) (ok : blkC X.N X.env.scope scope own = true)
    (ha : PA X [a, b] (rdA G W ag)) (hgg : Bk gb X G k scope fun Y => PG Y (.Tuple elts kz tpos) gt) (hg : TgLc G gt put (own.map (·.2))) (ht : Bk gb X G k scope fun Y => PTs Y ifs (rdT G WN tf)) (he : Bk gb X G k scope fun Y => PE Y elt (rd G WN f)) :
    PS X (.Assign [.Name y py] (.ListComp elt [⟨.Tuple elts kz tpos, .Call (.Name "zip" p) [a, b] [] p2, ifs, 0⟩] scope pos) spos) (tAsg (rd G W (eLcZ ag put (own.map (·.2)) tf f)) (gName i)) :=
  PS.to (ps_setLc fx.calm hN hy hyl hsw (RZ.pi_zipA hgl hm ha hst hpl) (blkOk_by ok) (fun s H C cl fp => hgg s H C cl fp (fx.blk ..)) (fun s H C cl fp => ht s H C cl fp (fx.blk ..)) (fun s H C cl fp => he s H C cl fp (fx.blk ..)) hs) fun _ _ _ q => lcZ_to fx.hK hg q
end
end
end Mi
end
section
set_option Elab.async false
set_option linter.all false
set_option maxRecDepth 100000
set_option maxHeartbeats 4000000
namespace Mi
open PySem PySem.Spec PyProof.Rows L2
open Evl (Ex)
/-! ### methods of own classes -/
structure MthM (P : Program) (w : World) (G : Cl) (mg : Str → Option Value) (base : Heap) (k : Nat) (c : Nat) (m : Str) (n : Nat) (fm : FM) : Prop where
  ex : ∃ (f : Addr) (fd : FuncData) (ps : List Str), Cls G.K (G.ca c) ∧ Meth G.K (G.ca c) m f ∧ FnOk P w G.K mg base (L2.CX P w) k f fd ps (spF G (n + 1) fm) ∧ Binds G.K fd ps []
section
variable {gb : Bool} {P : Program} {w : World} {G : Cl} {mg : Str → Option Value} {base : Heap} {k : Nat}
theorem mthM_of {c n : Nat} {m qual : Str} {st : Stmt} {f : Addr} {N ps : List Str} {sf : SM} {fm : FM} (Cc : Cls G.K (G.ca c)) (hm : Meth G.K (G.ca c) m f) (Dm : MetM G c m qual st f ps) (S : FnScope N ps (defScope st)) (h1 : ps.length = n + 1) (hfm : ∀ ds mu, fm ds mu = fnM N.length sf ds mu)
    (hbody : ∀ (f : Addr) (cdv : Value) (A : Around) (outer : List Env) (s : Shared) (H : Hp) (E : XK), Fx false (cxOf (L2.CX P w) P w G.K mg base N qual (defScope st) f cdv A outer s H E) G (fun cls d _ H' => E cls d H') k →
      PSs (cxOf (L2.CX P w) P w G.K mg base N qual (defScope st) f cdv A outer s H E) (defBody st) (rdS G (fun cls d _ H' => E cls d H') sf)) : MthM P w G mg base (k + 1) c m n fm := by
  obtain ⟨fd, F, hb⟩ := Dm.ex
  refine ⟨f, fd, ps, Cc, hm, FnC.ok ?_, hb⟩
  rw [show spF G (n + 1) fm = spF G ps.length fm by rw [h1]]
  refine fnC_by F S (fun vs H Q E h => spF_len h) fun cdv A outer s H vs Q E q hr h => ?_
  exact ⟨_, hbody f cdv A outer s H E ⟨⟨rfl, takes_of rfl rfl rfl rfl, passes_of rfl⟩, q, hr, rfl⟩, body_to hfm h⟩
end
section
variable {gb : Bool} {X : Cx} {G : Cl} {W : WX} {k : Nat} {pos : Pos} {a b c e ob : Expr} {f g h : EM} {x : Str} {ag : AM} {es : List Expr}
theorem zip_none {ns : List Str} {xs : List V} {m : Str} (h : m ∉ ns) : (ns.zip xs).lookup m = none := by
  induction ns generalizing xs with
  | nil => rfl
  | cons n ns ih =>
    cases xs with
    | nil => rfl
    | cons v xs =>
      have h1 : m ≠ n := fun z => h (z ▸ List.mem_cons_self)
      have h2 : m ∉ ns := fun z => h (List.mem_cons_of_mem _ z)
      rw [List.zip_cons_cons, List.lookup_cons, beq_eq_false_iff_ne.mpr h1]
      exact ih h2
def eMth (c n : Nat) (fm : FM) (f : EM) (g : AM) : EM := fun rho => M.bind (f rho) fun x => if insC c x.d = true then M.bind (g rho) (fun ds => if ds.length = n then M.bind (fm (x.d :: ds)) (fun d => M.pure d) else M.no) else M.no
theorem q_meth {j c n : Nat} {m : Str} {fm : FM} {apos : Pos} (fl : Flat W) (fx : Fx gb X G W k) (h : MthM X.prog X.w G X.mg X.base j c m n fm) (hj : j ≤ k) (hno : m ∉ G.fn c) (hst : starEach (e :: es) X.env = (false, eval e X.env) :: starEach es X.env) (hpl : (backTo pos (starEach es X.env)).any (·.1) = false) {pl : Sem Bool}
    (ht : eval (.Call (.Attribute ob m apos) (e :: es) [] pos) X.env = (do
      let ov ← eval ob X.env
      standAt apos.atName
      let (f, first) ← holding [ov] (getMethod ov m pl)
      callWith pos f first (backTo pos (starEach (e :: es) X.env)) (backToKw pos (keywordEach [] X.env)))) (ho : PE X ob (rd G W f)) (ha : PA X (e :: es) (rdA G W ag)) : PE X (.Call (.Attribute ob m apos) (e :: es) [] pos) (rd G W (eMth c n fm f ag)) := by
  obtain ⟨fa, fd, ps, C, M, F, hb⟩ := h.ex
  rw [← fx.hK] at C M F hb
  refine PE.to (pe_meth ho C M (F.mono hj) fx.hr hb .nil (ew_passes fx.toFx0) ha hst hpl ht) fun σ H Q ⟨am, e0, rho, mu, F0, s, o, mu', e1, kk⟩ => ?_
  refine rd_then s e1 (Ko.x kk) fun vl m1 v H1 F1 e2 q s1 rv => ?_
  have k1 := Ko.pre s.sub s.mr q kk
  by_cases hc : insC c vl.d = true
  · rw [if_pos hc] at e2
    cases hv : vl.d with
    | ins c' ds0 =>
      rw [hv] at hc rv e2
      have ec : c' = c := of_decide_eq_true hc
      subst ec
      cases rv with
      | ins h1 h2 h3 =>
        refine ⟨_, _, _, rfl, s1.sub _ _ h1, zip_none hno, ?_⟩
        refine rdA_then s1 e2 (Ko.x k1) fun ds m2 vs H2 F2 e3 q2 s2 ra => ?_
        by_cases hl : ds.length = n
        case neg => rw [if_neg hl] at e3; cases e3
        rw [if_pos hl] at e3
        show spF G (n + 1) fm (_ :: (vs ++ [])) H2 Q (EW W)
        rw [List.append_nil]
        exact own_then (ag := ag) (E := fun _ => EW W) (σ := σ) (fun cls d H' => (flat_eq fl σ cls d H').symm) s2 (by rw [List.length_cons, ra.length, hl]) (.cons ((Rp.ins h1 h2 h3).mono q2.fF) ra) e3 (Ko.pre s1.sub s1.mr q2 k1)
    | _ => rw [hv] at hc; cases hc
  · rw [if_neg hc] at e2
    cases e2
end
end Mi
end
section
set_option Elab.async false
set_option linter.all false
set_option maxRecDepth 100000
set_option maxHeartbeats 4000000
namespace Mi
open PySem PySem.Spec PyProof.Rows L2
open Evl (Ex)

/-! ### a op1 b op2 c op3 d -/
section
variable {X : Cx} {pos : Pos} {a b c d : Expr} {ta tb tc td : TE}
def tChain3 (r r' r'' : R2) (ta tb tc td : TE) : TE := fun σ H Q => ta σ H fun x H1 => tb σ H1 fun y H2 => r x y H2 fun z H3 => ∃ k, z = .bl k ∧
  (if k = true then tc σ H3 fun w H4 => r' y w H4 fun z' H5 => ∃ k', z' = .bl k' ∧ (if k' = true then td σ H5 fun u H6 => r'' w u H6 Q else Q (.bl false) H5) else Q (.bl false) H3)
theorem pe_chain3 {o1 o2 o3 : CmpOp} {r r' r'' : R2} (ho : OpR X (compareOp o1) r) (ho' : OpR X (compareOp o2) r') (ho'' : OpR X (compareOp o3) r'') (ha : PE X a ta) (hb : PE X b tb) (hc : PE X c tc) (hd : PE X d td)
    (hm : lastMarks [o1, o2, o3] [b, c, d] = false) : PE X (.Compare a [o1, o2, o3] [b, c, d] pos) (tChain3 r r' r'' ta tb tc td) := by
  refine ⟨fun pins s σ H Q I h => ?_⟩
  refine Compare_chain (thn (ha.run pins s σ H _ I h) fun v s1 ⟨x, H1, I1, r1, q1⟩ => chain_link (thn (hb.run pins s1 σ H1 _ I1 q1) fun u s2 ⟨y, H2, I2, r2, q2⟩ =>
    thn (ho pins s2 σ H2 x y v u _ I2 r1 r2 q2) fun d s3 ⟨z, H3, I3, r3, k, e, q3⟩ => ?_)) hm
  subst e
  cases r3
  refine wpAny_truthy_bool ?_
  cases k with
  | false => exact ite_ff ⟨.bl false, H3, I3, rfl, q3⟩
  | true =>
    refine ite_tt (chain_link (thn (hc.run pins s3 σ H3 _ I3 q3) fun w' s4 ⟨z', H4, I4, r4, q4⟩ => thn (ho' pins s4 σ H4 y z' u w' _ I4 r2 r4 q4) fun d' s5 ⟨z2, H5, I5, r5, k2, e2, q5⟩ => ?_))
    subst e2
    cases r5
    refine wpAny_truthy_bool ?_
    cases k2 with
    | false => exact ite_ff ⟨.bl false, H5, I5, rfl, q5⟩
    | true => exact ite_tt (chain_last (thn (hd.run pins s5 σ H5 _ I5 q5) fun w2 s6 ⟨z3, H6, I6, r6, q6⟩ => ho'' pins s6 σ H6 z' z3 w' w2 Q I6 r4 r6 q6))
theorem pt_chain3 {o1 o2 o3 : CmpOp} {r r' r'' : R2} (ho : OpR X (compareOp o1) r) (ho' : OpR X (compareOp o2) r') (ho'' : OpR X (compareOp o3) r'') (ha : PE X a ta) (hb : PE X b tb) (hc : PE X c tc) (hd : PE X d td)
    (hm : lastMarks [o1, o2, o3] [b, c, d] = false) : PT X (.Compare a [o1, o2, o3] [b, c, d] pos) (tTest (tChain3 r r' r'' ta tb tc td)) := by
  refine ⟨fun pins s σ H Q I h => ?_⟩
  refine isTrue_chain (thn (ha.run pins s σ H _ I h) fun v s1 ⟨x, H1, I1, r1, q1⟩ => test_link (thn (hb.run pins s1 σ H1 _ I1 q1) fun u s2 ⟨y, H2, I2, r2, q2⟩ =>
    thn (ho pins s2 σ H2 x y v u _ I2 r1 r2 q2) fun d s3 ⟨z, H3, I3, r3, k, e, q3⟩ => ?_)) hm
  subst e
  cases r3
  refine wpAny_truthy_bool ?_
  cases k with
  | false =>
    obtain ⟨k', e', q'⟩ := q3
    cases e'
    exact ite_ff ⟨H3, I3, q'⟩
  | true =>
    refine ite_tt (test_link (thn (hc.run pins s3 σ H3 _ I3 q3) fun w' s4 ⟨z', H4, I4, r4, q4⟩ => thn (ho' pins s4 σ H4 y z' u w' _ I4 r2 r4 q4) fun d' s5 ⟨z2, H5, I5, r5, k2, e2, q5⟩ => ?_))
    subst e2
    cases r5
    refine wpAny_truthy_bool ?_
    cases k2 with
    | false =>
      obtain ⟨k', e', q'⟩ := q5
      cases e'
      exact ite_ff ⟨H5, I5, q'⟩
    | true =>
      refine ite_tt (test_last (thn (hd.run pins s5 σ H5 _ I5 q5) fun w2 s6 ⟨z3, H6, I6, r6, q6⟩ => thn (ho'' pins s6 σ H6 z' z3 w' w2 _ I6 r4 r6 q6) fun d'' s7 ⟨z4, H7, I7, r7, k3, e3, q7⟩ => ?_))
      subst e3
      cases r7
      exact wpAny_truthy_bool ⟨H7, I7, q7⟩
end
section
variable {gb : Bool} {X : Cx} {G : Cl} {W : WX} {k : Nat} {pos : Pos} {a b c d e : Expr} {f g h j : EM} {x : Str} {ag : AM} {es : List Expr}
def eChain3 (m m' m'' : D → D → Option Vl) (f g h j : EM) : EM := fun rho => M.bind (f rho) fun x => M.bind (g rho) fun y => M.bind (M.of (m x.d y.d)) fun z => M.bind (M.of (blD z.d)) fun k =>
  if k = true then M.bind (h rho) fun w => M.bind (M.of (m' y.d w.d)) fun z' => M.bind (M.of (blD z'.d)) fun k' => if k' = true then M.bind (j rho) fun u => M.of (m'' w.d u.d) else M.pure (.fz (.bl false)) else M.pure (.fz (.bl false))
theorem of_bl {α : Type} {o : Option Vl} {g : Bool → M α} {m mu' : Mu} {r : Out α} (e : M.bind (M.of o) (fun z => M.bind (M.of (blD z.d)) g) m = some (r, mu')) : ∃ z k, o = some z ∧ blD z.d = some k ∧ g k m = some (r, mu') := by
  cases o with
  | none => cases e
  | some z =>
    have e3 : M.bind (M.of (blD z.d)) g m = some (r, mu') := e
    cases hb : blD z.d with
    | none => rw [hb] at e3; cases e3
    | some kb => rw [hb] at e3; exact ⟨z, kb, rfl, hb, e3⟩
theorem chain3_to {r r' r'' : R2} {m m' m'' : D → D → Option Vl} (hr : R2Ok G r m) (hr' : R2Ok G r' m') (hr'' : R2Ok G r'' m'') {σ : L2.St} {H : Hp} {Q : VK} (q : rd G W (eChain3 m m' m'' f g h j) σ H Q) : tChain3 r r' r'' (rd G W f) (rd G W g) (rd G W h) (rd G W j) σ H Q := by
  obtain ⟨am, e0, rho, mu, F, s, o, mu', e, k⟩ := q
  refine rd_then s e k.x fun vx m1 x H1 F1 e1 p1 s1 rx => ?_
  have k1 := Ko.pre s.sub s.mr p1 k
  refine rd_then s1 e1 k1.x fun vy m2 y H2 F2 e2 p2 s2 ry => ?_
  have k2 := Ko.pre s1.sub s1.mr p2 k1
  obtain ⟨z, kb, hz, hb, e3⟩ := of_bl e2
  refine hr am _ H2 F2 x y _ _ z _ s2.sub s2.mr s2.tb (rx.mono p2.fF) ry hz (Kd.use fun v H3 F3 p3 r3 => ?_)
  rw [blD_some hb] at r3
  cases r3
  refine ⟨kb, rfl, ?_⟩
  have s3 := s2.post p3
  have k3 := Ko.pre s2.sub s2.mr p3 k2
  cases kb with
  | false =>
    cases e3
    exact Kd.fz s3.sub s3.mr (.bl false) k3
  | true =>
    show rd G W h σ H3 _
    refine rd_then s3 e3 k3.x fun vw m4 w H4 F4 e4 p4 s4 rw_ => ?_
    have k4 := Ko.pre s3.sub s3.mr p4 k3
    obtain ⟨z', kb', hz', hb', e5⟩ := of_bl e4
    refine hr' am _ H4 F4 y w _ _ z' _ s4.sub s4.mr s4.tb ((ry.mono p3.fF).mono p4.fF) rw_ hz' (Kd.use fun v H5 F5 p5 r5 => ?_)
    rw [blD_some hb'] at r5
    cases r5
    refine ⟨kb', rfl, ?_⟩
    have s5 := s4.post p5
    have k5 := Ko.pre s4.sub s4.mr p5 k4
    cases kb' with
    | false =>
      cases e5
      exact Kd.fz s5.sub s5.mr (.bl false) k5
    | true =>
      show rd G W j σ H5 _
      refine rd_then s5 e5 k5.x fun vu m6 u H6 F6 e6 p6 s6 ru => ?_
      obtain ⟨t, ht, rfl, rfl⟩ := of_some e6
      exact hr'' am _ H6 F6 w u _ _ t Q s6.sub s6.mr s6.tb ((rw_.mono p5.fF).mono p6.fF) ru ht (Kd.pre s5.sub s5.mr p6 k5)
theorem x_chain3 {o1 o2 o3 : CmpOp} {m m' m'' : D → D → Option Vl} (fx : Fx0 X G W) (ho : CpOk X G o1 m) (ho' : CpOk X G o2 m') (ho'' : CpOk X G o3 m'') (ha : PE X a (rd G W f)) (hb : PE X b (rd G W g)) (hc : PE X c (rd G W h)) (hd : PE X d (rd G W j)) (hm : lastMarks [o1, o2, o3] [b, c, d] = false) :
    PE X (.Compare a [o1, o2, o3] [b, c, d] pos) (rd G W (eChain3 m m' m'' f g h j)) := by
  obtain ⟨r, h1, h2⟩ := ho.ex
  obtain ⟨r', h1', h2'⟩ := ho'.ex
  obtain ⟨r'', h1'', h2''⟩ := ho''.ex
  exact PE.to (pe_chain3 h1 h1' h1'' ha hb hc hd hm) fun _ _ _ q => chain3_to h2 h2' h2'' q
theorem y_chain3 {o1 o2 o3 : CmpOp} {m m' m'' : D → D → Option Vl} (fx : Fx0 X G W) (ho : CpOk X G o1 m) (ho' : CpOk X G o2 m') (ho'' : CpOk X G o3 m'') (ha : PE X a (rd G W f)) (hb : PE X b (rd G W g)) (hc : PE X c (rd G W h)) (hd : PE X d (rd G W j)) (hm : lastMarks [o1, o2, o3] [b, c, d] = false) :
    PT X (.Compare a [o1, o2, o3] [b, c, d] pos) (rdT G W (bOf (eChain3 m m' m'' f g h j))) := by
  obtain ⟨r, h1, h2⟩ := ho.ex
  obtain ⟨r', h1', h2'⟩ := ho'.ex
  obtain ⟨r'', h1'', h2''⟩ := ho''.ex
  exact PT.to (pt_chain3 h1 h1' h1'' ha hb hc hd hm) fun _ _ _ q => chain3_to h2 h2' h2'' (test_to q)

/-! ### a global tuple of written data -/
inductive DvR (G : Cl) : V → D → Prop
  | non : DvR G .non .non
  | bl (b : Bool) : DvR G (.bl b) (.bl b)
  | int (i : Int) : DvR G (.int i) (.int i)
  | str (x : Str) : DvR G (.str x) (.str x)
structure GloT (G : Cl) (mg : Str → Option Value) (x : Str) (ds : List D) : Prop where
  ex : ∃ a : Addr, mg x = some (.ref a) ∧ ∀ (F : Hp) (am : Addr), Rp G F am (.ref a) (.tup ds)
theorem d_gloT {ds : List D} (hg : Gl X x) (h : GloT G X.mg x ds) (hd : (x == ("__debug__" : Str)) = false := by decide) : PE X (.Name x pos) (rd G W (eC (.tup ds))) := by
  obtain ⟨a, ha, r⟩ := h.ex
  exact d_c (pe_glob hg ha (show RelV (.ref a) (.ref a) from rfl) hd) fun F am => r F am
theorem gloT_of {K : PySem.W.Frag} {xs : List (Str × List Str)} {T : List (Addr × Str)} {h : Heap} {mg : Str → Option Value} {x : Str} (X : K.In h) (Gs : h.Ns mainGlobals mg) (c : (He.Fa.glo x).ok K = true) {vs : List He.Dv} {ds : List D} (t : He.tupB K x vs = true) (e : ∀ (F : Hp) (am : Addr), RpAll (clOf K xs T) F am (vs.map (He.Dv.v K)) ds) : GloT (clOf K xs T) mg x ds :=
  ⟨He.ga K x, He.glo_ok X Gs c, fun F am => .tup (He.tupB_ok t F) (e F am)⟩

/-! ### math.gcd -/
def gcdM : D → D → Option Vl
  | .int i, .int j => some (.fz (.int ((Nat.gcd i.natAbs j.natAbs : Nat) : Int)))
  | _, _ => none
theorem ok_gcd {G : Cl} : CallOk G rGcd (m2 gcdM) := by
  intro am mu H F vs ds vl Q s mr ra e k
  cases ra with
  | nil => cases e
  | cons r1 ra =>
    cases ra with
    | nil => cases e
    | cons r2 ra =>
      cases ra with
      | cons _ _ => cases e
      | nil =>
        rename_i v1 d1 v2 d2
        cases d1 <;> cases d2 <;> cases e
        cases r1
        cases r2
        exact ⟨_, _, rfl, Kd.fz s mr (.int _) k⟩
theorem q_gcd {p : Pos} (fx : Fx0 X G W) (hg : Gl X "gcd") (hm : X.mg "gcd" = some (.builtin "math.gcd")) (he : starEach (e :: es) X.env = (false, eval e X.env) :: starEach es X.env) (hpl : (backTo pos (starEach es X.env)).any (·.1) = false) (ha : PA X (e :: es) (rdA G W ag)) :
    PE X (.Call (.Name "gcd" p) (e :: es) [] pos) (rd G W (eCall (m2 gcdM) ag)) := d_call (pe_callBfun cr_gcd hg hm ha (by decide) he hpl) ok_gcd
end
/-- a global built-in function of a module -/
theorem bfB_ok {K : PySem.W.Frag} {h : Heap} {mg : Str → Option Value} (X : K.In h) (G : h.Ns mainGlobals mg) {x : Str} {id : String} (c : bfB K x id = true) : mg x = some (.builtin id) := PySem.W.mg_of X G (of_decide_eq_true c)
end Mi
end
section
set_option Elab.async false
set_option linter.all false
set_option maxRecDepth 100000
set_option maxHeartbeats 4000000
namespace Mi
open PySem PySem.Spec PyProof.Rows L2
open Evl (Ex)
/-! ### enumerate of a list, of a tuple -/
/-- pairs of a count from k0 on and the items that S tells -/
def IteS (S : Hp → List V → Prop) (k0 : Int) : It where
  go := fun i H => ∃ xs x, S H xs ∧ xs[i]? = some x
  yld := fun i H v H' => ∃ T x, v = .ref T ∧ H T = none ∧ H' = upd H T (.tup [.int (k0 + (i : Int)), x]) ∧ ∀ xs, S H xs → xs[i]? = some x
  stop := fun i H => ∃ xs : List V, S H xs ∧ xs.length = i
/-- how the inner iterator at it over the thing at a stands at the i-th turn -/
structure Inn (P : Program) (w : World) (K : PySem.W.Frag) (S : Hp → List V → Prop) (a it : Addr) (st : Nat → Heap → Prop) : Prop where
  obj : ∀ i h, st i h → ∃ o, h.get? it = some o ∧ ∀ v, o.data ≠ .cell v
  keep : ∀ i h h', st i h → (∀ o, h.get? it = some o → h'.get? it = some o) → st i h'
  draws : ∀ (X : Cx), X.prog = P → X.w = w → X.K = K → X.calm = true → ∀ {pins : List (Addr × Obj)} {σ : L2.St} {H : Hp} {s : Shared}, Inv X pins σ H s → ∀ {xs : List V}, S H xs → ∃ (its : List Value) (St : Nat → Heap → Prop), Vals xs its ∧
    Draws P w X.A.in1 it [it, a] its.length (fun i v => its[i]? = some v) St ∧ (∀ i h, St i h → st i h) ∧ ∀ i, st i s.heap → St i s.heap
  one : ∀ (X : Cx), X.prog = P → X.w = w → X.K = K → ∀ {pins : List (Addr × Obj)} {σ : L2.St} {H : Hp} {s : Shared}, Inv X pins σ H s → ∀ {xs ys : List V}, S H xs → S H ys → xs = ys
theorem turn_enumS {P : Program} {w : World} {K : PySem.W.Frag} {elts : List Expr} {kk : Nat} {tpos : Pos} {S : Hp → List V → Prop} {k0 : Int} {a e it : Addr} {st : Nat → Heap → Prop} (N : Inn P w K S a it st) (hne : e ≠ it) (hea : e ≠ a) :
    Turn P w K (.Tuple elts kk tpos) (IteS S k0) [e, it] e (fun i h => (∃ old, IsEnum h e it (k0 + (i : Int)) old) ∧ st i h) where
  mem := List.mem_cons_self
  obj := fun i h z b hb => by
    obtain ⟨⟨old, he⟩, hs⟩ := z
    rcases List.mem_cons.mp hb with y | y
    · subst y
      exact ⟨_, he, fun v q => nomatch q⟩
    · have y := List.mem_singleton.mp y
      subst y
      exact N.obj i h hs
  keep := fun i h h' z k => by
    obtain ⟨⟨old, he⟩, hs⟩ := z
    exact ⟨⟨old, k e List.mem_cons_self _ he⟩, N.keep i h h' hs (k it (List.mem_cons_of_mem _ List.mem_cons_self))⟩
  item := fun X hP hw hK hc i pins s σ H E I hf z hg => by
    obtain ⟨⟨old, he⟩, hs⟩ := z
    obtain ⟨xs, x, hq, hx⟩ := hg
    obtain ⟨its, St, rv, D, hS, hT⟩ := N.draws X hP hw hK hc I hq
    obtain ⟨u, hu, ru⟩ := rv.get hx
    have hi : i < its.length := (List.getElem?_eq_some_iff.mp hu).1
    have lit : it < s.heap.objs.size := let ⟨_, q, _⟩ := N.obj i _ hs; Heap.lt_size q
    have lel : e < s.heap.objs.size := Heap.lt_size he
    have nin : e ∉ [it, a] := fun q => by
      rcases List.mem_cons.mp q with y | y
      · exact hne y
      · exact hea (List.mem_singleton.mp y)
    refine PySem.wpAny_pyNext_enum_itemC D he (hT i hs) hi hne nin fun v h' tk hv ho hs' hnew hsz hk => ?_
    have ev : v = u := Option.some.inj (hv.symm.trans hu)
    subst ev
    refine ⟨_, rfl, ?_⟩
    refine wpAny_letOwnedTupleGo_enum (s := { s with heap := h', toks := tk + 1 }) ho fun h2 he2 sb => ?_
    have hT2 := (sb.2 s.heap.objs.size (Nat.ne_of_gt lel)).trans hnew
    have lay : ObjOk X.prog X.w (upd H s.heap.objs.size (.tup [.int (k0 + (i : Int)), x])) h2 s.heap.objs.size (.tup [.int (k0 + (i : Int)), x]) := by
      refine ⟨show 2 ≤ sizeLine by decide, [.int (k0 + (i : Int)) tk, v], .cons ⟨_, rfl⟩ (.cons ru .nil), _, hT2, rfl, _, rfl⟩
    have I2 : Inv X pins σ (upd H s.heap.objs.size (.tup [.int (k0 + (i : Int)), x])) { s with heap := h2, toks := tk + 1 } := by
      refine I.turnedNew (ch := [e, it]) (fun b o hb q => ?_) hf (Nat.le_refl _) lay
      have b1 : b ≠ e := fun y => hb (y ▸ List.mem_cons_self)
      have b2 : b ≠ it := fun y => hb (y ▸ List.mem_cons_of_mem _ List.mem_cons_self)
      exact (sb.2 b b1).trans (hk b o b1 b2 q)
    refine ⟨.ref s.heap.objs.size, _, I2, rfl, ?_, ?_, fun b hb => ?_⟩
    · exact ⟨_, x, rfl, I.hok.fresh (Nat.le_refl _), rfl, fun ys hy => N.one X hP hw hK I hq hy ▸ hx⟩
    · refine ⟨⟨v, ?_⟩, N.keep _ _ _ (hS _ _ hs') fun o q => (sb.2 it (Ne.symm hne)).trans q⟩
      rw [show (k0 + ((i + 1 : Nat) : Int)) = k0 + (i : Int) + 1 by omega]
      exact he2
    · have lb : b < s.heap.objs.size := by
        rcases List.mem_cons.mp hb with y | y
        · exact y ▸ lel
        · exact List.mem_singleton.mp y ▸ lit
      rw [upd_ne (Nat.ne_of_lt lb)]
      exact (hf b hb).1
  done := fun X hP hw hK hc i pins s σ H E I hf z hg => by
    obtain ⟨⟨old, he⟩, hs⟩ := z
    obtain ⟨xs, hq, hx⟩ := hg
    obtain ⟨its, St, rv, D, hS, hT⟩ := N.draws X hP hw hK hc I hq
    have en : its.length = i := rv.length.symm.trans hx
    have z2 := hT i hs
    rw [← en] at z2
    obtain ⟨g0, g1, g2, g3, g4, g5⟩ := hf it (List.mem_cons_of_mem _ List.mem_cons_self)
    refine PySem.wpAny_pyNext_enum_endD D he z2 fun h' eb => ⟨rfl, ?_⟩
    exact I.turned (t' := s.toks) (fun b o hb q => eb b o hb q) g0 g1 g3 g4 g5
  self := fun A i s Q E z h => let ⟨⟨_, he⟩, _⟩ := z; wpAny_pyIter_enum he h

/-- over a list -/
theorem inn_list {P : Program} {w : World} {K : PySem.W.Frag} {a it : Addr} (hne : a ≠ it) : Inn P w K (fun H xs => SqL K H a xs) a it (fun i h => h.IsListIter it a i) where
  obj := fun i h ⟨o, ho, _, hd⟩ => ⟨o, ho, fun v q => by rw [hd] at q; cases q⟩
  keep := fun i h h' st k => st.at fun o q => k o q
  draws := fun X hP hw hK hc pins σ H s I xs hq => by
    subst hP hw hK
    obtain ⟨its, rv, p, _⟩ := I.list hq
    have D := Draws.list (prog := X.prog) (w := X.w) (A := X.A.in1) (I.ok.hd hc) it a hne its.toArray
    have D2 : Draws X.prog X.w X.A.in1 it [it, a] its.length (fun i v => its[i]? = some v) (fun i h => h.IsListIter it a i ∧ h.IsList a its.toArray) := by
      have h2 := D
      simp only [List.size_toArray, List.getElem?_toArray] at h2
      exact h2
    exact ⟨its, _, rv, D2, fun i h z => z.1, fun i z => ⟨z, p.isList⟩⟩
  one := fun X hP hw hK pins σ H s I xs ys h1 h2 => by
    subst hP hw hK
    exact I.list_inj h1 h2
/-- over a tuple -/
theorem inn_tup {P : Program} {w : World} {K : PySem.W.Frag} {a it : Addr} (hne : a ≠ it) : Inn P w K (fun H xs => SqT K H a xs) a it (fun i h => h.IsTupleIter it a i) where
  obj := fun i h ⟨o, ho, _, hd⟩ => ⟨o, ho, fun v q => by rw [hd] at q; cases q⟩
  keep := fun i h h' st k => st.at fun o q => k o q
  draws := fun X hP hw hK hc pins σ H s I xs hq => by
    subst hP hw hK
    obtain ⟨its, rv, p, _⟩ := I.tuple hq
    have D := Draws.tuple (prog := X.prog) (w := X.w) (A := X.A.in1) (I.ok.hd hc) it a hne its.toArray
    have D2 : Draws X.prog X.w X.A.in1 it [it, a] its.length (fun i v => its[i]? = some v) (fun i h => h.IsTupleIter it a i ∧ h.IsTuple a its.toArray) := by
      have h2 := D
      simp only [List.size_toArray, List.getElem?_toArray] at h2
      exact h2
    exact ⟨its, _, rv, D2, fun i h z => z.1, fun i z => ⟨z, p⟩⟩
  one := fun X hP hw hK pins σ H s I xs ys h1 h2 => by
    subst hP hw hK
    exact I.tuple_inj h1 h2
end Mi
end
section
set_option Elab.async false
set_option linter.all false
set_option maxRecDepth 100000
set_option maxHeartbeats 4000000
namespace Mi
open PySem PySem.Spec PyProof.Rows L2
open Evl (Ex)
/-- the object that enumerate(v) lays, its inner iterator at N -/
abbrev enO (N : Addr) (k : Int) : Obj := { cls := .type "enumerate", data := .fields #[.none, .bool false, .ref N, rawInt k, .none, .none] }
theorem meets_enum1 {v : Value} {o : Obj} {Hh : Heap → Prop} (B : Begins v o Hh) :
    Meets (Builtin.«enumerate.__new__» ⟨[.type "enumerate", v], []⟩) (fun _ R s => Hh s.heap ∧ R (.ok (.ret (.ref (s.heap.push o).objs.size))) { s with heap := (s.heap.push o).push (enO s.heap.objs.size 0) }) := by
  refine .of_wp fun P w A R s z => ?_
  obtain ⟨hp, gs, dn, tk, os⟩ := s
  obtain ⟨z1, z2⟩ := z
  have sb := sub_enumerate
  have itr : ∀ {A2 : Around} {E2 : Value → Shared → Prop} {Q2 : Value → Shared → Prop}, Q2 (.ref hp.objs.size) ⟨hp.push o, gs, dn, tk, os⟩ → wpAny (model P w) A2 (pyIter v) Q2 E2 ⟨hp, gs, dn, tk, os⟩ := fun q => B.iter P w _ _ ⟨hp, gs, dn, tk, os⟩ _ z1 q
  wp_walk using itr
  refine wpAny_stack_any fun st => ?_
  refine wpAny_pure ?_
  split
  · rename_i c _ _ _ _ _
    cases (c == Value.type "enumerate") with
    | true =>
      wp_walk using itr
      exact ⟨_, rfl, z2⟩
    | false =>
      wp_walk using itr
      exact ⟨_, rfl, z2⟩
  · wp_walk using itr
    exact ⟨_, rfl, z2⟩
theorem call_enum1 {P : Program} {w : World} {A : Around} {E : Value → Shared → Prop} {s : Shared} {v : Value} {o : Obj} {Hh : Heap → Prop} {Q : Value → Shared → Prop} (B : Begins v o Hh) (h1 : Hh s.heap)
    (h : ∀ h' : Heap, IsEnum h' (s.heap.objs.size + 1) s.heap.objs.size 0 .none → h'.get? s.heap.objs.size = some o → (∀ b o, s.heap.get? b = some o → h'.get? b = some o) → Q (.ref (s.heap.objs.size + 1)) { s with heap := h' }) :
    wpAny (model P w) A (call (.type "enumerate") [v]) Q E s := by
  have sz : (s.heap.push o).objs.size = s.heap.objs.size + 1 := Heap.size_push ..
  refine callType_new F.called_enumerate (by decide) (F.typeCall_enumerate_1 _) (F.newCall_enumerate_1 _) (fun ob => F.args_object_init_2 ob _) F.entry_enumerate_new (meets_enum1 B) ⟨h1, ?_⟩
  have top : ((s.heap.push o).push (enO s.heap.objs.size 0)).get? (s.heap.objs.size + 1) = some (enO s.heap.objs.size 0) := by
    have t := Heap.get?_push_size (s.heap.push o) (o := enO s.heap.objs.size 0) rfl
    rwa [sz] at t
  show _ ∧ _
  rw [sz]
  exact ⟨⟨_, top, rfl⟩, h _ top (Heap.get?_push_of_some _ (Heap.get?_push_size _ B.free)) fun b o2 x => Heap.get?_push_of_some _ (Heap.get?_push_of_some _ x)⟩
def iEnumA (K : PySem.W.Frag) (ta : TA) : TI := fun σ H R => ta σ H fun vs H1 => ∃ (a : Addr) (xs : List V), vs = [.ref a] ∧ ((SqL K H1 a xs ∧ R (IteS (fun H xs => SqL K H a xs) 0) H1) ∨ (SqT K H1 a xs ∧ R (IteS (fun H xs => SqT K H a xs) 0) H1))
theorem pi_enumA {X : Cx} {e : Expr} {ta : TA} {p pos tpos : Pos} {elts : List Expr} {kk : Nat} (hg : Gl X "enumerate") (hm : X.mg "enumerate" = none) (ha : PA X [e] ta) (hs : starEach [e] X.env = [(false, eval e X.env)]) :
    PI X (.Tuple elts kk tpos) (.Call (.Name "enumerate" p) [e] [] pos) (iEnumA X.K ta) := by
  refine ⟨fun pins s σ H R I z => ?_⟩
  refine Call_ (ld_blt I hg hm boot_enumerate ?_)
  refine PyProof.Rows.callWith_type1 (thn (ha.run pos pins s σ H _ I z) fun us s1 ⟨vs, H1, I1, r1, q1⟩ => ?_) hs rfl
  obtain ⟨a, xs, rfl, q1⟩ := q1
  cases r1 with
  | cons r rr =>
    cases rr
    cases r
    have fresh2 : ∀ b ∈ [s1.heap.objs.size + 1, s1.heap.objs.size], FpOk X pins H1 b := fun b hb => by
      have le : s1.heap.objs.size ≤ b := by
        rcases List.mem_cons.mp hb with y | y
        · exact y ▸ Nat.le_add_right _ _
        · exact List.mem_singleton.mp y ▸ Nat.le_refl _
      exact I1.fpOk le (I1.hok.fresh le)
    rcases q1 with ⟨hq, q⟩ | ⟨hq, q⟩
    · obtain ⟨its, rv, p', _⟩ := I1.list hq
      have la : a < s1.heap.objs.size := p'.lt
      refine call_enum1 (begins_list a its.toArray) p'.isList fun h' he ho hk => ?_
      refine wpAny_pyIter_enum he ?_
      refine ⟨s1.heap.objs.size + 1, _, _, _, H1, rfl, I1.kept (t' := s1.toks) hk, turn_enumS (k0 := 0) (inn_list (Nat.ne_of_lt la)) (Nat.succ_ne_self _) (Nat.ne_of_gt (Nat.lt_succ_of_lt la)), ⟨⟨.none, he⟩, ⟨_, ho, rfl, rfl⟩⟩, fresh2, q⟩
    · obtain ⟨its, rv, p', _⟩ := I1.tuple hq
      have la : a < s1.heap.objs.size := let ⟨_, y, _⟩ := id p'; Heap.lt_size y
      refine call_enum1 (begins_tuple a its.toArray) p' fun h' he ho hk => ?_
      refine wpAny_pyIter_enum he ?_
      refine ⟨s1.heap.objs.size + 1, _, _, _, H1, rfl, I1.kept (t' := s1.toks) hk, turn_enumS (k0 := 0) (inn_tup (Nat.ne_of_lt la)) (Nat.succ_ne_self _) (Nat.ne_of_gt (Nat.lt_succ_of_lt la)), ⟨⟨.none, he⟩, ⟨_, ho, rfl, rfl⟩⟩, fresh2, q⟩
end Mi
end
section
set_option Elab.async false
set_option linter.all false
set_option maxRecDepth 100000
set_option maxHeartbeats 4000000
namespace Mi
open PySem PySem.Spec PyProof.Rows L2
open Evl (Ex)
/-! ### enumerate in a for, in a comprehension -/
def cntV (n : Nat) : List V := (List.range n).map fun i : Nat => V.int (i : Int)
def cntD (n : Nat) : List D := (List.range n).map fun i : Nat => D.int (i : Int)
section
variable {gb : Bool} {X : Cx} {G : Cl} {W : WX} {k : Nat} {pos : Pos} {a b c e : Expr} {f g h : EM} {x : Str} {ag : AM} {es : List Expr} {tf : BM} {st : Stmt} {sf : SM} {am : Addr} {e0 : En} {H F H' F' H1 F1 : Hp} {rho : List Slot} {mu mu' m1 : Mu} {σ : L2.St}
theorem cnt_rp (n : Nat) : RpAll G F am (cntV n) (cntD n) := by
  unfold cntV cntD
  generalize List.range n = l
  induction l with
  | nil => exact .nil
  | cons i l ih => exact .cons (.int _) ih
theorem cnt_len (n : Nat) : (cntV n).length = n := by
  unfold cntV
  rw [List.length_map, List.length_range]
theorem cnt_at {n i : Nat} {v : V} (h : (cntV n)[i]? = some v) : v = .int (i : Int) := by
  unfold cntV at h
  rw [List.getElem?_map] at h
  by_cases hi : i < n
  · rw [List.getElem?_range hi] at h
    exact (Option.some.inj h).symm
  · rw [List.getElem?_eq_none (by rw [List.length_range]; omega)] at h
    cases h
theorem cnt_get {n i : Nat} (h : i < n) : (cntV n)[i]? = some (.int (i : Int)) := by
  unfold cntV
  rw [List.getElem?_map, List.getElem?_range h]
  rfl
theorem en_it {S : Hp → List V → Prop} {ys : List V} (hS : ∀ H', Ex F1 H' → S H' ys) : ZipIt (IteS S 0) F1 (cntV ys.length) ys where
  go := fun i H' x y z e1 e2 => ⟨ys, y, hS H' z, e2⟩
  yl := fun i H' v H2 z h => by
    obtain ⟨T, y, h1, h2, h3, h4⟩ := h
    rw [Int.zero_add] at h3
    have hy := h4 ys (hS H' z)
    exact ⟨T, .int (i : Int), y, h1, h2, h3, cnt_get (List.getElem?_eq_some_iff.mp hy).1, hy⟩
  st := fun i H' z h => ⟨ys, hS H' z, by rw [cnt_len] at h; omega⟩
/-- what enumerate is given -/
def enumA1 : List D → Option (List D)
  | [x] => match seqD x with
    | some ds => some (zipD (cntD ds.length) ds)
    | none => (match tupD x with
      | some ds => some (zipD (cntD ds.length) ds)
      | none => none)
  | _ => none
theorem enum_at {vs : List V} {ds zs : List D} (r : RpAll G F am vs ds) (h : enumA1 ds = some zs) : ∃ p ys dys, vs = [.ref p] ∧ zs = zipD (cntD ys.length) dys ∧ RpAll G F am ys dys ∧ (SqL G.K F p ys ∨ SqT G.K F p ys) := by
  unfold enumA1 at h
  split at h
  · rename_i x
    cases r with
    | cons r1 rr =>
      cases rr
      split at h
      · rename_i dx e1
        cases h
        obtain ⟨p, xs, rfl, h1, h2⟩ := seqD_at r1 e1
        exact ⟨p, xs, dx, rfl, by rw [h2.length], h2, .inl h1⟩
      · split at h
        · rename_i dx e1
          cases h
          obtain ⟨p, xs, rfl, h1, h2⟩ := tupD_at r1 e1
          exact ⟨p, xs, dx, rfl, by rw [h2.length], h2, .inr h1⟩
        · cases h
  · cases h
def sForE (f : AM) (body : D → SM) : SM := sWith f fun ds rho mu => match enumA1 ds with
  | some zs => forL body zs rho mu
  | none => none
theorem s_forE {gt : TG} {put : D → List Slot → Option (List Slot)} (hK : X.K = G.K) (h : PS X st (tFor (iEnumA X.K (rdA G W ag)) gt (rdS G W sf))) (hg : TgOk G gt put) : PS X st (rdS G W (sForE ag (sBody put sf))) := by
  refine PS.to h fun Dn σ H ⟨am, e0, rho, mu, F, s, r, mu', e, kk⟩ => ?_
  refine with_useA s e kk fun ds m1 vs H1 F1 e1 q s1 rv k1 => ?_
  cases hz : enumA1 ds with
  | none => rw [hz] at e1; cases e1
  | some zs =>
    rw [hz] at e1
    obtain ⟨p, ys, dys, rfl, rfl, ry, hh⟩ := enum_at rv hz
    rw [hK]
    rcases hh with h2 | h2
    · exact ⟨p, ys, rfl, .inl ⟨Evl.ex_l s1.sub h2, zip_go hg (en_it fun H' z => Evl.ex_l z h2) (cnt_rp _) ry s1 e1 k1⟩⟩
    · exact ⟨p, ys, rfl, .inr ⟨Evl.ex_t s1.sub h2, zip_go hg (en_it fun H' z => Evl.ex_t z h2) (cnt_rp _) ry s1 e1 k1⟩⟩
def eLcE (fi : AM) (put : D → List Slot → Option (List Slot)) (vs : List Nat) (t : BM) (f : EM) : EM := fun rho => M.bind (fi rho) fun v => fun mu => match enumA1 v with
  | some zs => (match lcL put t f (wipeR rho vs) zs [] mu with
    | some (out, mu') => some (.ok (.fr out), mu')
    | none => none)
  | none => none
theorem lcE_to {gt : TG} {put : D → List Slot → Option (List Slot)} {vs : List Nat} (hK : X.K = G.K) (hg : TgLc G gt put vs) {Q : VK} (q : rd G W (eLcE ag put vs tf f) σ H Q) : tLc (iEnumA X.K (rdA G W ag)) gt (rdT G WN tf) (rd G WN f) vs σ H Q := by
  obtain ⟨am, e0, rho, mu, F, s, o, mu', e, kk⟩ := q
  refine rdA_then s e kk.x fun ds m1 xs0 H1 F1 e1 q s1 rv => ?_
  cases hz : enumA1 ds with
  | none => rw [hz] at e1; cases e1
  | some zs =>
    rw [hz] at e1
    obtain ⟨out, rfl, e2⟩ := lc_out e1
    obtain ⟨p, ys, dys, rfl, rfl, ry, hh⟩ := enum_at rv hz
    rw [hK]
    have k1 := Kd.pre s.sub s.mr q (show Kd G am mu H F mu' Q (.fr out) from kk)
    rcases hh with h2 | h2
    · exact ⟨p, ys, rfl, .inl ⟨Evl.ex_l s1.sub h2, fun Dl nD => lcz_go hg (en_it fun H' z => Evl.ex_l z h2) (cnt_rp _) ry s1 nD e2 k1⟩⟩
    · exact ⟨p, ys, rfl, .inr ⟨Evl.ex_t s1.sub h2, fun Dl nD => lcz_go hg (en_it fun H' z => Evl.ex_t z h2) (cnt_rp _) ry s1 nD e2 k1⟩⟩
section
variable {elt : Expr} {ifs elts : List Expr} {scope : Scope} {own : List (Str × Nat)} {gt : TG} {put : D → List Slot → Option (List Slot)} {y : Str} {py spos tpos : Pos} {i kz : Nat} {p p2 : Pos}
theorem q_forE {body : List Stmt} (fx : Fx gb X G W k) (hgl : Gl X "enumerate") (hm : X.mg "enumerate" = none) (hst : starEach [a] X.env = [(false, eval a X.env)]) (hs : ∀ x, foldedSetIterable (.Call (.Name "enumerate" p) [a] [] p2) X.env x = pure x)
    (ha : PA X [a] (rdA G W ag)) (hgg : PG X (.Tuple elts kz tpos) gt) (hg : TgOk G gt put) (hb : PSs X body (rdS G W sf)) : PS X (.For (.Tuple elts kz tpos) (.Call (.Name "enumerate" p) [a] [] p2) body [] pos) (rdS G W (sForE ag (sBody put sf))) :=
  s_forE fx.hK (ps_for fx.po fx.calm (pi_enumA hgl hm ha hst) hgg hb hs) hg
theorem q_lcE (own : List (Str × Nat)) (fx : Fx gb X G W k) (hN : X.N.Nodup) (hgl : Gl X "enumerate") (hm : X.mg "enumerate" = none) (hst : starEach [a] X.env = [(false, eval a X.env)]) (hs : ∀ x, foldedSetIterable (.Call (.Name "enumerate" p) [a] [] p2) X.env x = pure x) (ok : blkC X.N X.env.scope scope own = true)
    (ha : PA X [a] (rdA G W ag)) (hgg : Bk gb X G k scope fun Y => PG Y (.Tuple elts kz tpos) gt) (hg : TgLc G gt put (own.map (·.2))) (ht : Bk gb X G k scope fun Y => PTs Y ifs (rdT G WN tf)) (he : Bk gb X G k scope fun Y => PE Y elt (rd G WN f)) :
    PE X (.ListComp elt [⟨.Tuple elts kz tpos, .Call (.Name "enumerate" p) [a] [] p2, ifs, 0⟩] scope pos) (rd G W (eLcE ag put (own.map (·.2)) tf f)) :=
  PE.to (pe_lc fx.calm hN (pi_enumA hgl hm ha hst) (blkOk_by ok) (fun s H C cl fp => hgg s H C cl fp (fx.blk ..)) (fun s H C cl fp => ht s H C cl fp (fx.blk ..)) (fun s H C cl fp => he s H C cl fp (fx.blk ..)) hs) fun _ _ _ q => lcE_to fx.hK hg q
theorem r_lcE (own : List (Str × Nat)) (fx : Fx gb X G W k) (hN : X.N.Nodup) (hy : X.N[i]? = some y) (hyl : X.env.scope.names.lookup y = some .local) (hsw : swapsWith (.ListComp elt [⟨.Tuple elts kz tpos, .Call (.Name "enumerate" p) [a] [] p2, ifs, 0⟩] scope pos) (some (.Name y py)) spos.line X.env = pure true)
    (hgl : Gl X "enumerate") (hm : X.mg "enumerate" = none) (hst : starEach [a] X.env = [(false, eval a X.env)]) (hs : ∀ x, foldedSetIterable (.Call (.Name "enumerate" p) [a] [] p2) X.env x = pure x) (ok : blkC X.N X.env.scope scope own = true)
    (ha : PA X [a] (rdA G W ag)) (hgg : Bk gb X G k scope fun Y => PG Y (.Tuple elts kz tpos) gt) (hg : TgLc G gt put (own.map (·.2))) (ht : Bk gb X G k scope fun Y => PTs Y ifs (rdT G WN tf)) (he : Bk gb X G k scope fun Y => PE Y elt (rd G WN f)) :
    PS X (.Assign [.Name y py] (.ListComp elt [⟨.Tuple elts kz tpos, .Call (.Name "enumerate" p) [a] [] p2, ifs, 0⟩] scope pos) spos) (tAsg (rd G W (eLcE ag put (own.map (·.2)) tf f)) (gName i)) :=
  PS.to (ps_setLc fx.calm hN hy hyl hsw (pi_enumA hgl hm ha hst) (blkOk_by ok) (fun s H C cl fp => hgg s H C cl fp (fx.blk ..)) (fun s H C cl fp => ht s H C cl fp (fx.blk ..)) (fun s H C cl fp => he s H C cl fp (fx.blk ..)) hs) fun _ _ _ q => lcE_to fx.hK hg q
end
end
end Mi
end
section
set_option Elab.async false
set_option linter.all false
set_option maxRecDepth 100000
set_option maxHeartbeats 4000000
namespace Mi
open PySem PySem.Spec PyProof.Rows L2
open Evl (Ex)
/-! ### *e in a display, in a call's arguments -/
section
variable {gb : Bool} {X : Cx} {G : Cl} {W : WX} {k : Nat} {pos p : Pos} {a b c e : Expr} {f g h : EM} {x : Str} {ag : AM} {es : List Expr}
def itemsD (d : D) : Option (List D) := match seqD d with
  | some ds => some ds
  | none => tupD d
def aStar (f : EM) (g : AM) : AM := fun rho => M.bind (f rho) fun x => M.bind (M.of (itemsD x.d)) fun ds => M.bind (g rho) fun es => M.pure (ds ++ es)
theorem items_at {F : Hp} {am : Addr} {v : V} {d : D} {ds : List D} (r : Rp G F am v d) (h : itemsD d = some ds) : ∃ q xs, v = .ref q ∧ RpAll G F am xs ds ∧ (SqL G.K F q xs ∨ SqT G.K F q xs) := by
  unfold itemsD at h
  split at h
  · rename_i dx e1
    cases h
    obtain ⟨q, xs, rfl, h1, h2⟩ := seqD_at r e1
    exact ⟨q, xs, rfl, h2, .inl h1⟩
  · obtain ⟨q, xs, rfl, h1, h2⟩ := tupD_at r h
    exact ⟨q, xs, rfl, h2, .inr h1⟩
theorem a_star (fx : Fx0 X G W) (hs : starEach (.Starred e p :: es) X.env = (true, eval e X.env) :: starEach es X.env) (he : PE X e (rd G W f)) (hr : PA X es (rdA G W ag)) : PA X (.Starred e p :: es) (rdA G W (aStar f ag)) := by
  refine PA.to (StX.pa_star he hr hs) fun σ H Q ⟨am, e0, rho, mu, F, s, o, mu', e1, kk⟩ => ?_
  refine rd_then s e1 (KoA.x kk) fun vl m1 v H1 F1 e2 q s1 rv => ?_
  have k1 := KoA.pre s.sub q kk
  have e3 : M.bind (M.of (itemsD vl.d)) (fun ds => M.bind (ag rho) fun es => M.pure (ds ++ es)) m1 = some (o, mu') := e2
  cases hi : itemsD vl.d with
  | none => rw [hi] at e3; cases e3
  | some ds =>
    rw [hi] at e3
    obtain ⟨qa, xs, rfl, rx, hh⟩ := items_at rv hi
    rw [fx.hK]
    refine ⟨qa, xs, rfl, hh.elim (fun y => .inr (Evl.ex_l s1.sub y)) (fun y => .inl (Evl.ex_t s1.sub y)), ?_⟩
    have e4 : M.bind (ag rho) (fun es => M.pure (ds ++ es)) m1 = some (o, mu') := e3
    refine rdA_then s1 e4 (KoA.x k1) fun ds2 m2 vs H2 F2 e5 q2 s2 ra => ?_
    cases e5
    exact KoA.pre s1.sub q2 k1 (xs ++ vs) H2 F2 (Post.refl s2.sub s2.mr) ((rx.mono q2.fF).append ra)
end
/-! ### C(k = v, ..) -/
structure MakF (P : Program) (w : World) (G : Cl) (mg : Str → Option Value) (base : Heap) (k : Nat) (x : Str) (c : Nat) (qual : Str) (st : Stmt) (ps : List Str) (fi : IM) : Prop where
  ex : ∃ (f : Addr) (fd : FuncData), Mk G.K (G.ca c) f ∧ FnOk P w G.K mg base (L2.CX P w) k f fd ps (spI G c ps.length fi) ∧ mg x = some (.ref (G.ca c)) ∧ FunD G.K "__init__" qual (defArgs st) (defBody st) (defScope st) [] [] f fd
section
variable {P : Program} {w : World} {G : Cl} {mg : Str → Option Value} {base : Heap} {k : Nat}
theorem makF_of {c n : Nat} {x qual : Str} {st : Stmt} {f : Addr} {N ps : List Str} {sf : SM} {fi : IM} (M : Mk G.K (G.ca c) f) (hm : mg x = some (.ref (G.ca c))) (Dm : MetM G c "__init__" qual st f ps) (S : FnScope N ps (defScope st)) (hfi : ∀ ds mu, fi ds mu = initM N.length c (G.fn c).length sf ds mu)
    (hbody : ∀ (f : Addr) (cdv : Value) (A : Around) (outer : List Env) (s : Shared) (H : Hp) (E : XK), Fx false (cxOf (L2.CX P w) P w G.K mg base N qual (defScope st) f cdv A outer s H E) G (fun cls d _ H' => E cls d H') k →
      PSs (cxOf (L2.CX P w) P w G.K mg base N qual (defScope st) f cdv A outer s H E) (defBody st) (rdS G (fun cls d _ H' => E cls d H') sf)) : MakF P w G mg base (k + 1) x c qual st ps fi := by
  obtain ⟨fd, F, hb⟩ := Dm.ex
  refine ⟨f, fd, M, FnC.ok ?_, hm, F⟩
  refine fnC_by F S (fun vs H Q E z => ?_) fun cdv A outer s H vs Q E q hr z => ?_
  · obtain ⟨_, _, _, _, _, _, _, _, _, _, _, _, _, _, _, _, _, hl, _⟩ := z
    exact hl
  · exact ⟨_, hbody f cdv A outer s H E ⟨⟨rfl, takes_of rfl rfl rfl rfl, passes_of rfl⟩, q, hr, rfl⟩, init_to hfi z⟩
end
end Mi
end
section
set_option Elab.async false
set_option linter.all false
set_option maxRecDepth 100000
set_option maxHeartbeats 4000000
namespace Mi
open PySem PySem.Spec PyProof.Rows L2
open Evl (Ex)
section
variable {G : Cl} {x qual : Str} {params : Arguments} {body : List Stmt} {scope : Scope} {f : Addr} {fd : FuncData} {ps : List Str}
theorem kbn_self {K : PySem.W.Frag} (F : FunD K x qual params body scope [] [] f fd) (ks : List Str) (pm : List Nat)
    (h : ∀ (kV doc pmv : Value) (an : Option Addr) (cdv ct u : Value) (ws : List Value), ws.length = ks.length → bindArgs (PySem.W.fnOf x qual params body scope .none kV doc pmv an cdv ct) ⟨[u], ks.zip ws⟩ = pure (ps.zip (u :: pm.map fun i => ws.getD i .none))) :
    KBn K fd ps 1 ks (fun us ws => us ++ pm.map fun i => ws.getD i .none) (fun vs zs => vs ++ pm.map fun i => zs.getD i .non) := by
  obtain ⟨oc, od, dV, kV, doc, pmv, an, cdv, ct, osl, rfl, lk, hcd, hD, hK⟩ := F.ex
  obtain rfl : dV = .none := hD.elim (fun z => z.2) fun z => absurd rfl z.1
  refine ⟨fun s us ws X l1 l2 => ?_, fun r1 r2 => r1.append (pick_vals r2 pm)⟩
  match us, l1 with
  | [u], _ => exact .of_eq (h kV doc pmv an cdv ct u ws l2)
end
section
variable {gb : Bool} {X : Cx} {G : Cl} {W : WX} {k : Nat} {pos p : Pos} {a b c e : Expr} {f g h : EM} {x : Str} {ag : AM} {es : List Expr} {kws : List Keyword}
def eMakeK (c : Nat) (fi : IM) (pm : List Nat) (n : Nat) (g : AM) : EM := fun rho => M.bind (g rho) fun ds => if ds.length = n then M.bind (fi (reK pm ds)) (fun fs => M.pure (.fz (.ins c fs))) else M.no
theorem q_makeK {j c n nf : Nat} {fi : IM} {qual : Str} {st : Stmt} {ps ks : List Str} (pm : List Nat) (hnf : (G.fn c).length = nf) (hn : ks.length = n) (hpm : pm.length + 1 = ps.length) (fl : Flat W) (fx : Fx gb X G W k) (h : MakF X.prog X.w G X.mg X.base j x c qual st ps fi) (hj : j + 1 ≤ k) (hg : Gl X x) (hd : (x == ("__debug__" : Str)) = false)
    (hbind : ∀ (kV doc pmv : Value) (an : Option Addr) (cdv ct u : Value) (ws : List Value), ws.length = ks.length → bindArgs (PySem.W.fnOf "__init__" qual (defArgs st) (defBody st) (defScope st) .none kV doc pmv an cdv ct) ⟨[u], ks.zip ws⟩ = pure (ps.zip (u :: pm.map fun i => ws.getD i .none)))
    (hall : (backToKw pos (keywordEach kws X.env)).all (·.1.isSome) = true) (hks : (backToKw pos (keywordEach kws X.env)).filterMap (·.1) = ks) (hpl : ((backTo pos (starEach [] X.env)).any (·.1) || (backToKw pos (keywordEach kws X.env)).any (·.1.isNone)) = false)
    (ha : PK X kws (rdA G W ag)) : PE X (.Call (.Name x p) [] kws pos) (rd G W (eMakeK c (lenI nf fi) pm n ag)) := by
  subst hnf hn
  obtain ⟨fa, fd, Mc, F, hm, U⟩ := h.ex
  rw [← fx.hK] at Mc F U
  refine PE.to (pe_makeK0 Mc F (fx.hr.mono hj) hg hm (kbn_self U ks pm hbind) (ew_passes fx.toFx0) ha hall hks hd hpl) fun σ H Q ⟨am, e0, rho, mu, F0, s, o, mu', e1, kk⟩ => ?_
  show rdA G W ag σ H _
  refine rdA_then s e1 (Ko.x kk) fun ds m1 zs H1 F1 e2 q s1 rz => ?_
  have k1 := Ko.pre s.sub s.mr q kk
  by_cases hl : ds.length = ks.length
  case neg => rw [if_neg hl] at e2; cases e2
  rw [if_pos hl] at e2
  refine ⟨rfl, rz.length.trans hl, fun y dx ny ndx hne => ?_⟩
  have e3 : M.bind (lenI (G.fn c).length fi (reK pm ds)) (fun fs => M.pure (Vl.fz (.ins c fs))) m1 = some (o, mu') := e2
  unfold M.bind at e3
  cases e4 : lenI (G.fn c).length fi (reK pm ds) m1 with
  | none => rw [e4] at e3; cases e3
  | some z =>
    obtain ⟨o2, m2⟩ := z
    rw [e4] at e3
    refine spI_len ⟨am, m1, H1, F1, reK pm ds, y, dx, _, rfl, rfl, ny, ndx, hne, s1.sub, s1.mr, pick_rp rz pm, s1.tb, ?_, o2, m2, e4, ?_⟩
    · show (pm.map fun i => zs.getD i .non).length + 1 = _
      rw [List.length_map]
      exact hpm
    · cases o2 with
      | ex c' cs =>
        cases e3
        exact fun dd xs H' F' q2 h2 r2 => by
          rw [← flat_eq fl σ]
          exact k1 dd xs H' F' q2 h2 r2
      | ok fs =>
        cases e3
        refine fun H' F' xs dx' q2 n2 h2 hl2 r2 => ⟨rfl, ?_⟩
        obtain ⟨q3, gx⟩ := freezeO q2 ny h2 n2 (new_ne s1.mr ny)
        exact k1 _ H' _ q3 (.ins upd_same (by rw [r2.length, lenI_ok e4]) (r2.mono gx))
end
end Mi
end
section
set_option Elab.async false
set_option linter.all false
set_option maxRecDepth 100000
set_option maxHeartbeats 4000000
namespace Mi
open PySem PySem.Spec PyProof.Rows L2
open Evl (Ex)
/-! ### == by an own __eq__ -/
/-- the own __eq__ of the class c, and whose it is not -/
structure EqM (P : Program) (w : World) (G : Cl) (mg : Str → Option Value) (base : Heap) (k : Nat) (c : Nat) (fm : FM) (nf : D → Bool) : Prop where
  ex : ∃ (f : Addr) (fd : FuncData) (ps : List Str), PySem.W.findIn G.K (.ref (G.ca c)) "__eq__" = some (some (.ref f)) ∧ PySem.W.isFn G.K (.ref f) = true ∧ FnOk P w G.K mg base (L2.CX P w) k f fd ps (spF G 2 fm) ∧ Binds G.K fd ps []
  first : ∀ t, nf t = true → PySem.W.notFirst G.K (G.ca c) (vK G t) = true
/-- the call of a def by a rule of ours that raises nothing and tells a truth -/
def rEqS (K : PySem.W.Frag) (C : Addr) (sp : Sp) : R2 := fun x y H Q => ∃ (a dx : Addr) (fs : List (Str × V)) (t : Value), x = .ref a ∧ H a = some (.ins C dx fs) ∧ TyX K H y t ∧ PySem.W.notFirst K C t = true ∧ sp [x, y] H (fun v H' => ∃ b, v = .bl b ∧ Q v H') E0
section
variable {X : Cx} {j : Nat} {C f : Addr} {fd : FuncData} {ps : List Str} {sp : Sp}
theorem run_eqS {A : Around} {pins : List (Addr × Obj)} {σ : L2.St} {H : Hp} {s : Shared} {x y : V} {v u : Value} {Q : VK} (F : FnOk X.prog X.w X.K X.mg X.base (L2.CX X.prog X.w) j f fd ps sp) (hb : Binds X.K fd ps []) (sb : L2.Sub X j A) (I : Inv X pins σ H s) (rx : RelV x v) (ry : RelV y u)
    (h : sp [x, y] H (fun z H' => ∃ b, z = .bl b ∧ Q z H') E0) : wpAny (model X.prog X.w) A (call (.ref f) [v, u]) (fun r s' => ∃ b H', r = .bool b ∧ Inv X pins σ H' s' ∧ Q (.bl b) H') X.xe s := by
  have e0 : Env0 X.prog X.w X.K X.mg X.base A X.stack s H := by
    have e := I.env0
    exact ⟨sb.fr ▸ e.frames, e.mod, e.bs, e.bsz, e.funs, e.frf, e.hok, e.bare⟩
  have r2 : Vals [x, y] [v, u] := .cons rx (.cons ry .nil)
  have bnd : BindsTo s fd ⟨[v, u], []⟩ (ps.zip [v, u]) := by
    have z := hb s [v, u] I.kIn (F.len _ _ _ _ h)
    rwa [List.append_nil] at z
  refine wpAny_call (codeAny_mono (F.run A X.stack s H ⟨[v, u], []⟩ [v, u] [x, y] _ E0 sb.room e0 bnd r2 h) fun r s' hq => ?_)
  cases r with
  | error e => exact passL pins σ H s e s' I hq
  | ok fl =>
    cases fl with
    | ret z =>
      obtain ⟨zv, H', I', rz, b, ez, q⟩ := I.after hq
      subst ez
      exact ⟨b, H', rz, I', q⟩
    | next => exact False.elim hq
    | brk => exact False.elim hq
    | cont => exact False.elim hq
theorem op_eqS (F : FnOk X.prog X.w X.K X.mg X.base (L2.CX X.prog X.w) j f fd ps sp) (hb : Binds X.K fd ps []) (hr : Room j X.A) (hs : PySem.W.findIn X.K (.ref C) "__eq__" = some (some (.ref f))) (hf : PySem.W.isFn X.K (.ref f) = true) : OpR X (compareOp .Eq) (rEqS X.K C sp) := by
  intro pins s σ H x y v u Q I rx ry h
  obtain ⟨a, dx, fs, t, rfl, ha, ty, hn, h⟩ := h
  cases rx
  obtain ⟨mA, J, _⟩ := ins_get I.hok ha
  obtain ⟨od, J, _⟩ := J.look
  obtain ⟨m, hF⟩ := I.fr
  obtain ⟨Pt, Z, hp, _⟩ := kit_of I ry ty
  show wpAny (model X.prog X.w) X.A (richCompare .Eq (.ref a) u) (EP X pins σ Q) X.xe s
  refine PySem.W.cmp_K (op := .Eq) hr.units0 hF I.ok.mod.kin J (Z.ty _ _ I.kIn hp) hn hs hf ?_
  refine wpAny_mono (run_eqS F hb ⟨hr, rfl⟩ I (show RelV (.ref a) (.ref a) from rfl) ry h) (fun r s' ⟨b, H', er, I', q⟩ => ?_) fun _ _ z => z
  subst er
  exact ⟨.bl b, H', I', rfl, q⟩
end
/-! over data -/
/-- one def that changes nothing but what is new, looked at without the mug -/
def eqO (c : Nat) (fm : FM) (nf : D → Bool) : D → D → Option Vl := fun x y => match tyD y with
  | some t => if (insC c x && nf t) = true then (match fm [x, y] none with
    | some (.ok (.fz (.bl b)), none) => some (.fz (.bl b))
    | _ => none) else none
  | none => none
section
variable {G : Cl} {am : Addr} {H F H' F' : Hp} {mu mu' : Mu}
theorem Post.nomug (s : Ex F H) (m : MR G H F am mu) (q : Post G am none H F none H' F') : Post G am mu H F mu H' F' where
  keep := fun a o _ h => q.keep a o (.inl rfl) h
  tb := q.tb
  fF := q.fF
  sub := q.sub
  new := q.new
  mr := m.mono (fun hm => by
    cases mu with
    | none => exact absurd rfl hm
    | some ds =>
      obtain ⟨h1, xs, h2, h3⟩ := m
      cases z : F' am with
      | none => rfl
      | some o =>
        rcases q.new am (by rw [z]; simp) with y | y
        · exact absurd h1 y
        · rw [h2] at y; cases y) q.fF fun xs _ h => q.kept (.inl rfl) h (fun _ z => by cases z)
  mm := Iff.rfl
end
theorem ok_eqS {G : Cl} {tb : D → D → Option Bool} {c : Nat} {fm : FM} {nf : D → Bool} (T : IsTab G tb) (hT : ∀ t, nf t = true → ∃ y r, tb t y = some r) (hN : ∀ t, nf t = true → PySem.W.notFirst G.K (G.ca c) (vK G t) = true) : R2Ok G (rEqS G.K (G.ca c) (spF G 2 fm)) (eqO c fm nf) := by
  intro am mu H F x y dx dy vl Q s mr tt rx ry e k
  unfold eqO at e
  cases ht : tyD dy with
  | none => rw [ht] at e; cases e
  | some t =>
    rw [ht] at e
    dsimp only at e
    by_cases hc : (insC c dx && nf t) = true
    case neg => rw [if_neg hc] at e; cases e
    rw [if_pos hc] at e
    rw [Bool.and_eq_true] at hc
    cases e1 : fm [dx, dy] none with
    | none => rw [e1] at e; cases e
    | some z =>
      obtain ⟨o, m2⟩ := z
      rw [e1] at e
      obtain ⟨b, ho, hm, hv⟩ : ∃ b, o = .ok (.fz (.bl b)) ∧ m2 = none ∧ vl = .fz (.bl b) := by
        split at e
        · rename_i b h2
          cases h2
          cases e
          exact ⟨b, rfl, rfl, rfl⟩
        · cases e
      subst ho hm hv
      obtain ⟨yy, r, htb⟩ := hT t hc.2
      have ty := tyD_at T s ry ht htb
      cases dx with
      | ins c' ds0 =>
        have ec : c' = c := of_decide_eq_true hc.1
        subst ec
        have rx0 := rx
        cases rx with
        | ins h1 h2 h3 =>
          refine ⟨_, _, _, _, rfl, s _ _ h1, ty, hN t hc.2, am, none, F, [_, dy], s, trivial, .cons rx0 (.cons ry .nil), tt, rfl, _, _, e1, ?_⟩
          intro v H' F' q r
          cases r
          exact ⟨b, rfl, k _ H' F' (q.nomug s mr) (.bl b)⟩
      | _ => cases hc.1
/-- two meanings, one behind the other -/
def orE (m m' : D → D → Option Vl) (x y : D) : Option Vl := match m x y with
  | some z => some z
  | none => m' x y
theorem cp_eqO {gb : Bool} {X : Cx} {G : Cl} {W : WX} {k j c : Nat} {fm : FM} {nf : D → Bool} {tb : D → D → Option Bool} {m0 : D → D → Option Vl} (fx : Fx gb X G W k) (E : EqM X.prog X.w G X.mg X.base j c fm nf) (hj : j ≤ k) (T : IsTab G tb) (hT : ∀ t, nf t = true → ∃ y r, tb t y = some r) (b : CpOk X G .Eq m0) : CpOk X G .Eq (orE (eqO c fm nf) m0) := by
  obtain ⟨f, fd, ps, h1, h2, F, hb⟩ := E.ex
  obtain ⟨r, g1, g2⟩ := b.ex
  have e := fx.hK
  rw [← e] at h1 h2 F hb
  have o1 := op_eqS F hb (fx.hr.mono hj) h1 h2
  refine ⟨_, o1.or g1, R2Ok.or ?_ g2⟩
  rw [e]
  exact ok_eqS T hT E.first
end Mi
end
section
set_option Elab.async false
set_option linter.all false
set_option maxRecDepth 100000
set_option maxHeartbeats 4000000
namespace Mi
open PySem PySem.Spec PyProof.Rows L2
open Evl (Ex)
/-! ### != where there is an own __eq__ alone -/
section
variable {P : Program} {w : World} {A : Around} {E : Value → Shared → Prop} {s : Shared} {K : PySem.W.Frag} {x C L f : Addr} {h₀ : Heap} {m : Str → Option Value} {ox : Obj} {od : Option Obj} {b tb : Value}
/-- object.__ne__ asks __eq__ and turns it -/
theorem ne_body (hu : A.units < cLine) (X : K.In s.heap) (I : PySem.W.InstAt s.heap x ox C od) (he : PySem.W.findIn K (.ref C) "__eq__" = some (some (.ref f))) (hf : PySem.W.isFn K (.ref f) = true) {Q : Fin → Shared → Prop}
    (h : wpAny (model P w) A (call (.ref f) [.ref x, b]) (fun r s' => ∃ v, r = .bool v ∧ Q (.done (.ret (.bool (!v)))) s') E s) : wpAny (model P w) A (Builtin.«object.__ne__» ⟨[.ref x, b], []⟩) Q E s := by
  obtain ⟨hp, gs, dn, tk, os⟩ := s
  unfold Builtin.«object.__ne__»
  have one : wpAny (model P w) A (callSpecialIfBound? (.ref x) (Str.ofString "__eq__") [b]) (fun r s' => ∃ v, r = some (.bool v) ∧ Q (.done (.ret (.bool (!v)))) s') E ⟨hp, gs, dn, tk, os⟩ :=
    PySem.W.ifBound_K X I he hf (wpAny_mono h (fun r s' ⟨v, e, q⟩ => ⟨v, congrArg some e, q⟩) fun _ _ z => z)
  repeat (first
    | with_reducible refine wpAny_cRoomFor hu ?_
    | (refine wpAny_bind (m := callSpecialIfBound? (.ref x) (Str.ofString "__eq__") [b]) (wpAny_mono one (fun r s' z => ?_) fun _ _ z => z)
       obtain ⟨v, rfl, q⟩ := z
       repeat (first | exact q | exact wpAny_pure q | exact wpAny_truthy_bool q | (refine wpAny_bind (m := truthy (.bool _)) (wpAny_truthy_bool ?_)) | wp_step))
    | wp_step)
/-- a special name that a built-in slot of object answers -/
theorem bound_slot {M : Model} {name : Str} {args : List Value} {id : String} {Q : Option Value → Shared → Prop} (X : K.In s.heap) (I : PySem.W.InstAt s.heap x ox C od) (hs : PySem.W.findIn K (.ref C) name = some (some (.builtin id))) (hbd : ∀ v, bindSpecial (.builtin id) v = pure (.builtin id, [v]))
    (h : wpAny M A (call (.builtin id) (.ref x :: args)) (fun v => Q (some v)) E s) : wpAny M A (callSpecialIfBound? (.ref x) name args) Q E s := by
  have last : wpAny M A (call (.builtin id) ([.ref x] ++ args) >>= fun v => pure (some v)) Q E s := by
    refine wpAny_bind (wpAny_mono h (fun v s' z => ?_) fun _ _ z => z)
    exact wpAny_pure z
  simp only [callSpecialIfBound?, bindSpecialIfBound?]
  refine wpAny_holding (wpAny_bind ?_)
  refine wpAny_bind (wpAny_bind (I.type.here ?_))
  refine (PySem.W.looks_findIn X hs).here ?_
  simp only [hbd]
  refine wpAny_bind (wpAny_askSetting (wpAny_ite ?_))
  split
  · exact wpAny_bind (wpAny_pure (wpAny_pure last))
  · exact wpAny_tryCatch (wpAny_bind (wpAny_pure (wpAny_pure last)))
theorem ne_cmp (hu : A.units + 1 < cLine) (X : K.In s.heap) (I : PySem.W.InstAt s.heap x ox C od) (hb : PySem.W.Looks (model P w) s.heap (typeOf b) tb) (hn : PySem.W.notFirst K C tb = true)
    (hne : PySem.W.findIn K (.ref C) "__ne__" = some (some (.builtin "object.__ne__"))) (hob : PySem.W.subIn K (.ref C) (.type "object") = some true) (he : PySem.W.findIn K (.ref C) "__eq__" = some (some (.ref f))) (hf : PySem.W.isFn K (.ref f) = true) {Q : Value → Shared → Prop}
    (h : wpAny (model P w) A.in1 (call (.ref f) [.ref x, b]) (fun r s' => ∃ v, r = .bool v ∧ Q (.bool (!v)) s') E s) : wpAny (model P w) A (richCompare .NotEq (.ref x) b) Q E s := by
  have isI : PySem.W.Looks (model P w) s.heap (isInstance (.ref x) (.type "object")) true := I.type.andThen (PySem.W.looks_subIn X hob)
  have called : wpAny (model P w) A (call (.builtin "object.__ne__") [.ref x, b]) (fun r s' => ∃ v, r = .bool v ∧ Q (.bool v) s') E s := by
    refine wpAny_call (codeAny_call_builtin F.cmp_object.ne.plain F.cmpEntry_ne (PySem.W.check_slot F.cmpKind_ne F.cmpSplit_ne isI (F.cmpArgs_ne _ _) ?_))
    refine ne_body (A := A.in1) (show A.in1.units < cLine from hu) X I he hf (wpAny_mono h (fun r s' ⟨v, e, q⟩ => ⟨v, e, ?_⟩) fun _ _ z => z)
    first | exact ⟨_, rfl, q⟩ | exact ⟨_, rfl, wpAny_pure ⟨_, rfl, q⟩⟩
  have one : wpAny (model P w) A (tryCompare (.ref x) (cmpInfo .NotEq).2.1 b) (fun r s' => ∃ v, r = some v ∧ Q v s') E s := by
    unfold tryCompare
    refine wpAny_bind (bound_slot X I hne F.cmp_object.ne.bind (wpAny_mono called (fun r s' ⟨v, e, q⟩ => ?_) fun _ _ z => z))
    subst e
    exact wpAny_pure ⟨_, rfl, q⟩
  unfold richCompare
  simp only [oneThing_ref]
  refine wpAny_holding (wpAny_bind (wpAny_cRoomFor (Nat.lt_of_succ_lt hu) ?_))
  refine wpAny_bind (I.type.here ?_)
  refine wpAny_bind (hb.here ?_)
  split
  · rename_i q
    have e : PySem.W.subIn K tb (.ref C) = some false := by
      rcases Bool.or_eq_true_iff.mp hn with z | z
      · rw [beq_iff_eq.mp z] at q
        simp at q
      · exact beq_iff_eq.mp z
    refine wpAny_bind ((PySem.W.looks_subIn X e).here ?_)
    simp only [Bool.false_eq_true, if_false]
    refine wpAny_bind (wpAny_mono one (fun r s' ⟨v, e, q⟩ => ?_) fun _ _ z => z)
    subst e
    exact wpAny_pure q
  · refine wpAny_bind (wpAny_pure ?_)
    simp only [Bool.false_eq_true, if_false]
    refine wpAny_bind (wpAny_mono one (fun r s' ⟨v, e, q⟩ => ?_) fun _ _ z => z)
    subst e
    exact wpAny_pure q
end
/-- what != asks beside -/
structure NeM (G : Cl) (c : Nat) : Prop where
  ne : PySem.W.findIn G.K (.ref (G.ca c)) "__ne__" = some (some (.builtin "object.__ne__"))
  ob : PySem.W.subIn G.K (.ref (G.ca c)) (.type "object") = some true
def rNeS (K : PySem.W.Frag) (C : Addr) (sp : Sp) : R2 := fun x y H Q => ∃ (a dx : Addr) (fs : List (Str × V)) (t : Value), x = .ref a ∧ H a = some (.ins C dx fs) ∧ TyX K H y t ∧ PySem.W.notFirst K C t = true ∧ sp [x, y] H (fun v H' => ∃ b, v = .bl b ∧ ∃ b', v = .bl b' ∧ Q (.bl (!b')) H') E0
section
variable {X : Cx} {j : Nat} {C f : Addr} {fd : FuncData} {ps : List Str} {sp : Sp}
theorem op_neS (F : FnOk X.prog X.w X.K X.mg X.base (L2.CX X.prog X.w) j f fd ps sp) (hb : Binds X.K fd ps []) (hr : Room (j + 1) X.A) (hs : PySem.W.findIn X.K (.ref C) "__eq__" = some (some (.ref f))) (hf : PySem.W.isFn X.K (.ref f) = true)
    (hne : PySem.W.findIn X.K (.ref C) "__ne__" = some (some (.builtin "object.__ne__"))) (hob : PySem.W.subIn X.K (.ref C) (.type "object") = some true) : OpR X (compareOp .NotEq) (rNeS X.K C sp) := by
  intro pins s σ H x y v u Q I rx ry h
  obtain ⟨a, dx, fs, t, rfl, ha, ty, hn, h⟩ := h
  cases rx
  obtain ⟨mA, J, _⟩ := ins_get I.hok ha
  obtain ⟨od, J, _⟩ := J.look
  obtain ⟨Pt, Z, hp, _⟩ := kit_of I ry ty
  have sb : L2.Sub X (j + 1) X.A := ⟨hr, rfl⟩
  show wpAny (model X.prog X.w) X.A (richCompare .NotEq (.ref a) u) (EP X pins σ Q) X.xe s
  refine ne_cmp (K := X.K) sb.in1.room.units0 I.kIn J (Z.ty _ _ I.kIn hp) hn hne hob hs hf ?_
  refine wpAny_mono (run_eqS (Q := fun z H' => ∃ b, z = .bl b ∧ Q (.bl (!b)) H') F hb sb.in1 I (show RelV (.ref a) (.ref a) from rfl) ry ?_) (fun r s' ⟨b, H', er, I', b', eb, q⟩ => ?_) fun _ _ z => z
  · exact h
  · cases eb
    exact ⟨b, er, .bl (!b), H', I', rfl, q⟩
end
def neO (c : Nat) (fm : FM) (nf : D → Bool) : D → D → Option Vl := fun x y => match tyD y with
  | some t => if (insC c x && nf t) = true then (match fm [x, y] none with
    | some (.ok (.fz (.bl b)), none) => some (.fz (.bl (!b)))
    | _ => none) else none
  | none => none
theorem ok_neS {G : Cl} {tb : D → D → Option Bool} {c : Nat} {fm : FM} {nf : D → Bool} (T : IsTab G tb) (hT : ∀ t, nf t = true → ∃ y r, tb t y = some r) (hN : ∀ t, nf t = true → PySem.W.notFirst G.K (G.ca c) (vK G t) = true) : R2Ok G (rNeS G.K (G.ca c) (spF G 2 fm)) (neO c fm nf) := by
  intro am mu H F x y dx dy vl Q s mr tt rx ry e k
  unfold neO at e
  cases ht : tyD dy with
  | none => rw [ht] at e; cases e
  | some t =>
    rw [ht] at e
    dsimp only at e
    by_cases hc : (insC c dx && nf t) = true
    case neg => rw [if_neg hc] at e; cases e
    rw [if_pos hc] at e
    rw [Bool.and_eq_true] at hc
    cases e1 : fm [dx, dy] none with
    | none => rw [e1] at e; cases e
    | some z =>
      obtain ⟨o, m2⟩ := z
      rw [e1] at e
      obtain ⟨b, ho, hm, hv⟩ : ∃ b, o = .ok (.fz (.bl b)) ∧ m2 = none ∧ vl = .fz (.bl (!b)) := by
        split at e
        · rename_i b h2
          cases h2
          cases e
          exact ⟨b, rfl, rfl, rfl⟩
        · cases e
      subst ho hm hv
      obtain ⟨yy, r, htb⟩ := hT t hc.2
      have ty := tyD_at T s ry ht htb
      cases dx with
      | ins c' ds0 =>
        have ec : c' = c := of_decide_eq_true hc.1
        subst ec
        have rx0 := rx
        cases rx with
        | ins h1 h2 h3 =>
          refine ⟨_, _, _, _, rfl, s _ _ h1, ty, hN t hc.2, am, none, F, [_, dy], s, trivial, .cons rx0 (.cons ry .nil), tt, rfl, _, _, e1, ?_⟩
          intro v H' F' q r
          cases r
          exact ⟨b, rfl, b, rfl, k _ H' F' (q.nomug s mr) (.bl _)⟩
      | _ => cases hc.1
theorem cp_neO {gb : Bool} {X : Cx} {G : Cl} {W : WX} {k j c : Nat} {fm : FM} {nf : D → Bool} {tb : D → D → Option Bool} {m0 : D → D → Option Vl} (fx : Fx gb X G W k) (E : EqM X.prog X.w G X.mg X.base j c fm nf) (N : NeM G c) (hj : j + 1 ≤ k) (T : IsTab G tb) (hT : ∀ t, nf t = true → ∃ y r, tb t y = some r) (b : CpOk X G .NotEq m0) : CpOk X G .NotEq (orE (neO c fm nf) m0) := by
  obtain ⟨f, fd, ps, h1, h2, F, hb⟩ := E.ex
  obtain ⟨r, g1, g2⟩ := b.ex
  obtain ⟨n1, n2⟩ := N
  have e := fx.hK
  rw [← e] at h1 h2 F hb n1 n2
  have o1 := op_neS F hb (fx.hr.mono hj) h1 h2 n1 n2
  refine ⟨_, o1.or g1, R2Ok.or ?_ g2⟩
  rw [e]
  exact ok_neS T hT E.first
end Mi
end
section
set_option Elab.async false
set_option linter.all false
set_option maxRecDepth 100000
set_option maxHeartbeats 4000000
namespace Mi
open PySem PySem.Spec PyProof.Rows L2
open Evl (Ex)
/-! ### bool(an object of an own class) -/
/-- an instance at x of a class that tells no truth of its own -/
def Tru (K : PySem.W.Frag) (C x : Addr) (h : Heap) : Prop := ∃ ox od, K.In h ∧ PySem.W.InstAt h x ox C od
structure TruF (K : PySem.W.Frag) (C : Addr) : Prop where
  nb : PySem.W.findIn K (.ref C) "__bool__" = some none
  nl : PySem.W.findIn K (.ref C) "__len__" = some none
theorem truthy_ins {M : Model} {A : Around} {E : Value → Shared → Prop} {s : Shared} {K : PySem.W.Frag} {C x : Addr} {Q : Bool → Shared → Prop} (T : TruF K C) (t : Tru K C x s.heap) (h : Q true s) : wpAny M A (truthy (.ref x)) Q E s := by
  obtain ⟨ox, od, X, I⟩ := t
  unfold truthy
  refine wpAny_bind (m := callSpecial? (.ref x) (Str.ofString "__bool__")) ?_
  refine wpAny_bind (wpAny_bind (I.type.here ?_))
  refine (PySem.W.looks_findIn X T.nb).here (wpAny_pure ?_)
  refine wpAny_bind (wpAny_bind (I.type.here ?_))
  refine (PySem.W.looks_findIn X T.nl).here ?_
  exact wpAny_pure h
theorem meets_bool_ins {K : PySem.W.Frag} {C x : Addr} (T : TruF K C) : Meets (Builtin.«bool.__new__» ⟨[.type "bool", .ref x], []⟩) (fun _ R s => Tru K C x s.heap ∧ R (.ok (.ret (.bool true))) s) := by
  refine .of_wp fun P w A R s z => ?_
  obtain ⟨hp, gs, dn, tk, os⟩ := s
  obtain ⟨z1, z2⟩ := z
  have sb := F.conv_sub_bool
  have tr : ∀ {A2 : Around} {E2 : Value → Shared → Prop} {Q2 : Bool → Shared → Prop}, Q2 true ⟨hp, gs, dn, tk, os⟩ → wpAny (model P w) A2 (truthy (.ref x)) Q2 E2 ⟨hp, gs, dn, tk, os⟩ := fun q => truthy_ins T z1 q
  repeat (any_goals (first | assumption | with_reducible apply tr | wp_step))
  all_goals first | exact ⟨_, rfl, z2⟩ | skip
theorem call_bool_ins {X : Cx} {C : Addr} (T : TruF X.K C) : CallR X (.type "bool") (fun xs H Q => ∃ a dx fs, xs = [.ref a] ∧ H a = some (.ins C dx fs) ∧ Q (.bl true) H) := by
  intro pins s σ H xs us Q I r h
  obtain ⟨a, dx, fs, rfl, ha, q⟩ := h
  obtain ⟨u, rfl, r1⟩ := vals1 r
  cases r1
  obtain ⟨mA, J, _⟩ := ins_get I.hok ha
  obtain ⟨od, J, _⟩ := J.look
  exact call_bool_1 (meets_bool_ins T) ⟨⟨_, _, I.kIn, J⟩, ⟨rfl, .bl true, H, I, rfl, q⟩⟩
def boolO (c : Nat) (m : List D → Option Vl) : List D → Option Vl
  | [.ins c' ds] => if c' = c then some (.fz (.bl true)) else m [.ins c' ds]
  | ds => m ds
theorem bi_boolO {X : Cx} {G : Cl} {W : WX} {c : Nat} {m : List D → Option Vl} (fx : Fx0 X G W) (T : TruF G.K (G.ca c)) (b : ∃ r, CallR X (.type "bool") r ∧ CallOk G r m) : ∃ r, CallR X (.type "bool") r ∧ CallOk G r (boolO c m) := by
  obtain ⟨r, h1, h2⟩ := b
  rw [← fx.hK] at T
  refine ⟨_, (call_bool_ins T).or h1, ?_⟩
  intro am mu H F vs ds vl Q s mr ra e k
  unfold boolO at e
  split at e
  · rename_i c' cs
    by_cases hc : c' = c
    · subst hc
      rw [if_pos rfl] at e
      cases e
      cases ra with
      | cons r1 rr =>
        cases rr
        cases r1 with
        | ins g1 g2 g3 => exact .inl ⟨_, _, _, rfl, s _ _ g1, Kd.fz s mr (.bl true) k⟩
    · rw [if_neg hc] at e
      exact .inr (h2 am mu H F vs _ vl Q s mr ra e k)
  · exact .inr (h2 am mu H F vs ds vl Q s mr ra e k)
theorem bool_base {X : Cx} {G : Cl} : ∃ r, CallR X (.type "bool") r ∧ CallOk G r (m1 boolM) := ⟨_, call_bool1, ok_bool⟩
theorem bi_boolX {X : Cx} {G : Cl} {m : List D → Option Vl} (b : ∃ r, CallR X (.type "bool") r ∧ CallOk G r m) (h : X.mg "bool" = none) : BiOk X G "bool" m := by
  obtain ⟨r, h1, h2⟩ := b
  exact ⟨_, r, h1, h2, h, .inr ⟨_, rfl, boot_bool⟩⟩
end Mi
end
section
set_option Elab.async false
set_option linter.all false
set_option maxRecDepth 100000
set_option maxHeartbeats 4000000
namespace Mi
open PySem PySem.Spec PyProof.Rows L2
open Evl (Ex)
/-! ### methods called by keywords, methods of no arguments -/
def tMethK (C : Addr) (m : Str) (n : Nat) (sp : Sp) (gV : List V → List V → List V) (E : XK) (ta : TE) (tk : TA) : TE := fun σ H Q => ta σ H fun x H1 => ∃ a dx fs, x = .ref a ∧ H1 a = some (.ins C dx fs) ∧ fs.lookup m = none ∧ tk σ H1 fun zs H2 => zs.length = n ∧ sp (gV [x] zs) H2 Q E
section
variable {X : Cx} {CX : CXT} {k : Nat} {f C : Addr} {fd : FuncData} {ps ks : List Str} {sp : Sp} {E : XK} {m : Str} {pos apos : Pos} {o : Expr} {kws : List Keyword} {ta : TE} {tk : TA} {g : List Value → List Value → List Value} {gV : List V → List V → List V}
theorem run_fnK {pins : List (Addr × Obj)} {σ : L2.St} {H : Hp} {s : Shared} {Q : VK} {us ws : List Value} {vs zs : List V} (F : FnOk X.prog X.w X.K X.mg X.base CX k f fd ps sp) (hr : Room k X.A) (hb : KBn X.K fd ps 1 ks g gV) (hx : Passes CX X E)
    (I : Inv X pins σ H s) (r : Vals vs us) (rz : Vals zs ws) (l1 : us.length = 1) (l2 : zs.length = ks.length) (h : sp (gV vs zs) H Q E) : wpAny (model X.prog X.w) X.A (call (.ref f) us (ks.zip ws)) (EP X pins σ Q) X.xe s := by
  have bnd := hb.to s us ws I.kIn l1 (rz.length.symm.trans l2)
  refine wpAny_call (codeAny_mono (F.run X.A X.stack s H ⟨us, ks.zip ws⟩ (g us ws) (gV vs zs) Q E hr I.env0 bnd (hb.rel r rz) h) fun r s' hq => ?_)
  cases r with
  | error e => exact hx pins σ H s e s' I hq
  | ok fl =>
    cases fl with
    | ret u => exact I.after hq
    | next => exact False.elim hq
    | brk => exact False.elim hq
    | cont => exact False.elim hq
theorem pe_methK {pl : Sem Bool} (he : PE X o ta) (c : Cls X.K C) (hm : Meth X.K C m f) (F : FnOk X.prog X.w X.K X.mg X.base CX k f fd ps sp) (hr : Room k X.A) (hb : KBn X.K fd ps 1 ks g gV) (hx : Passes CX X E) (hkw : PK X kws tk)
    (hall : (backToKw pos (keywordEach kws X.env)).all (·.1.isSome) = true) (hks : (backToKw pos (keywordEach kws X.env)).filterMap (·.1) = ks) (hpl : ((backTo pos (starEach [] X.env)).any (·.1) || (backToKw pos (keywordEach kws X.env)).any (·.1.isNone)) = false)
    (ht : eval (.Call (.Attribute o m apos) [] kws pos) X.env = (do
      let ov ← eval o X.env
      standAt apos.atName
      let (f, first) ← holding [ov] (getMethod ov m pl)
      callWith pos f first (backTo pos (starEach [] X.env)) (backToKw pos (keywordEach kws X.env)))) :
    PE X (.Call (.Attribute o m apos) [] kws pos) (tMethK C m ks.length sp gV E ta tk) := by
  refine ⟨fun pins s σ H Q I h => ?_⟩
  refine PySem.W.methodCall_KW (pl := pl) (thn (he.run pins s σ H _ I h) fun u s1 ⟨x, H1, I1, rx, a, dx, fs, ex, ea, l, q⟩ => ?_) ht
  subst ex
  obtain rfl : u = Value.ref a := rx
  refine getmeth_ok I1 ea c hm l ?_
  refine PySem.W.callWith_KW0 (first := [.ref a]) (h₀ := X.base) I.ok.mod.kin hm.kp hall ?_ hpl
  refine thn (hkw.run pos pins s1 σ H1 _ I1 q) fun ws s2 ⟨zs, H2, I2, rz, l2, q2⟩ => ⟨I2.kIn, ?_⟩
  rw [hks]
  exact run_fnK (us := [.ref a]) (vs := [.ref a]) F hr hb hx I2 (.cons rfl .nil) rz rfl l2 q2
end
/-- a method with its binding -/
structure MthF (P : Program) (w : World) (G : Cl) (mg : Str → Option Value) (base : Heap) (k : Nat) (c : Nat) (m qual : Str) (st : Stmt) (ps : List Str) (fm : FM) : Prop where
  ex : ∃ (f : Addr) (fd : FuncData), Cls G.K (G.ca c) ∧ Meth G.K (G.ca c) m f ∧ FnOk P w G.K mg base (L2.CX P w) k f fd ps (spF G ps.length fm) ∧ FunD G.K m qual (defArgs st) (defBody st) (defScope st) [] [] f fd
section
variable {P : Program} {w : World} {G : Cl} {mg : Str → Option Value} {base : Heap} {k : Nat}
theorem mthF_of {c : Nat} {m qual : Str} {st : Stmt} {f : Addr} {N ps : List Str} {sf : SM} {fm : FM} (Cc : Cls G.K (G.ca c)) (hm : Meth G.K (G.ca c) m f) (Dm : MetM G c m qual st f ps) (S : FnScope N ps (defScope st)) (hfm : ∀ ds mu, fm ds mu = fnM N.length sf ds mu)
    (hbody : ∀ (f : Addr) (cdv : Value) (A : Around) (outer : List Env) (s : Shared) (H : Hp) (E : XK), Fx false (cxOf (L2.CX P w) P w G.K mg base N qual (defScope st) f cdv A outer s H E) G (fun cls d _ H' => E cls d H') k →
      PSs (cxOf (L2.CX P w) P w G.K mg base N qual (defScope st) f cdv A outer s H E) (defBody st) (rdS G (fun cls d _ H' => E cls d H') sf)) : MthF P w G mg base (k + 1) c m qual st ps fm := by
  obtain ⟨fd, F, hb⟩ := Dm.ex
  refine ⟨f, fd, Cc, hm, FnC.ok ?_, F⟩
  refine fnC_by F S (fun vs H Q E h => spF_len h) fun cdv A outer s H vs Q E q hr h => ?_
  exact ⟨_, hbody f cdv A outer s H E ⟨⟨rfl, takes_of rfl rfl rfl rfl, passes_of rfl⟩, q, hr, rfl⟩, body_to hfm h⟩
end
section
variable {gb : Bool} {X : Cx} {G : Cl} {W : WX} {k : Nat} {pos : Pos} {ob : Expr} {f : EM} {ag : AM} {kws : List Keyword}
def eMthK (c n : Nat) (pm : List Nat) (fm : FM) (f : EM) (g : AM) : EM := fun rho => M.bind (f rho) fun x => if insC c x.d = true then M.bind (g rho) (fun ds => if ds.length = n then M.bind (fm (x.d :: reK pm ds)) (fun d => M.pure d) else M.no) else M.no
theorem q_methK {j c n : Nat} {m qual : Str} {st : Stmt} {ps ks : List Str} {fm : FM} {apos : Pos} (pm : List Nat) (hn : ks.length = n) (hpm : pm.length + 1 = ps.length) (fl : Flat W) (fx : Fx gb X G W k) (h : MthF X.prog X.w G X.mg X.base j c m qual st ps fm) (hj : j ≤ k) (hno : m ∉ G.fn c)
    (hbind : ∀ (kV doc pmv : Value) (an : Option Addr) (cdv ct u : Value) (ws : List Value), ws.length = ks.length → bindArgs (PySem.W.fnOf m qual (defArgs st) (defBody st) (defScope st) .none kV doc pmv an cdv ct) ⟨[u], ks.zip ws⟩ = pure (ps.zip (u :: pm.map fun i => ws.getD i .none)))
    (hall : (backToKw pos (keywordEach kws X.env)).all (·.1.isSome) = true) (hks : (backToKw pos (keywordEach kws X.env)).filterMap (·.1) = ks) (hpl : ((backTo pos (starEach [] X.env)).any (·.1) || (backToKw pos (keywordEach kws X.env)).any (·.1.isNone)) = false) {pl : Sem Bool}
    (ht : eval (.Call (.Attribute ob m apos) [] kws pos) X.env = (do
      let ov ← eval ob X.env
      standAt apos.atName
      let (f, first) ← holding [ov] (getMethod ov m pl)
      callWith pos f first (backTo pos (starEach [] X.env)) (backToKw pos (keywordEach kws X.env)))) (ho : PE X ob (rd G W f)) (ha : PK X kws (rdA G W ag)) : PE X (.Call (.Attribute ob m apos) [] kws pos) (rd G W (eMthK c n pm fm f ag)) := by
  subst hn
  obtain ⟨fa, fd, C, Mt, F, U⟩ := h.ex
  rw [← fx.hK] at C Mt F U
  refine PE.to (pe_methK ho C Mt (F.mono hj) fx.hr (kbn_self U ks pm hbind) (ew_passes fx.toFx0) ha hall hks hpl ht) fun σ H Q ⟨am, e0, rho, mu, F0, s, o, mu', e1, kk⟩ => ?_
  refine rd_then s e1 (Ko.x kk) fun vl m1 v H1 F1 e2 q s1 rv => ?_
  have k1 := Ko.pre s.sub s.mr q kk
  by_cases hc : insC c vl.d = true
  case neg =>
    rw [if_neg hc] at e2
    cases e2
  rw [if_pos hc] at e2
  cases hv : vl.d with
  | ins c' ds0 =>
    rw [hv] at hc rv e2
    have ec : c' = c := of_decide_eq_true hc
    subst ec
    cases rv with
    | ins h1 h2 h3 =>
      refine ⟨_, _, _, rfl, s1.sub _ _ h1, zip_none hno, ?_⟩
      refine rdA_then s1 e2 (Ko.x k1) fun ds m2 vs H2 F2 e3 q2 s2 ra => ?_
      by_cases hl : ds.length = ks.length
      case neg => rw [if_neg hl] at e3; cases e3
      rw [if_pos hl] at e3
      refine ⟨ra.length.trans hl, ?_⟩
      refine own_then (ag := ag) (E := fun _ => EW W) (σ := σ) (fun cls d H' => (flat_eq fl σ cls d H').symm) s2 ?_ (.cons ((Rp.ins h1 h2 h3).mono q2.fF) (pick_rp ra pm)) e3 (Ko.pre s1.sub s1.mr q2 k1)
      show (pm.map fun i => vs.getD i .non).length + 1 = _
      rw [List.length_map]
      exact hpm
  | _ => rw [hv] at hc; cases hc
def eMth0 (c : Nat) (fm : FM) (f : EM) : EM := fun rho => M.bind (f rho) fun x => if insC c x.d = true then M.bind (fm [x.d]) (fun d => M.pure d) else M.no
theorem q_meth0 {j c : Nat} {m : Str} {fm : FM} {apos : Pos} (fl : Flat W) (fx : Fx gb X G W k) (h : MthM X.prog X.w G X.mg X.base j c m 0 fm) (hj : j ≤ k) (hno : m ∉ G.fn c) {pl : Sem Bool}
    (ht : eval (.Call (.Attribute ob m apos) [] [] pos) X.env = (do
      let ov ← eval ob X.env
      standAt apos.atName
      let (f, first) ← holding [ov] (getMethod ov m pl)
      callWith pos f first (backTo pos (starEach [] X.env)) (backToKw pos (keywordEach [] X.env)))) (ho : PE X ob (rd G W f)) : PE X (.Call (.Attribute ob m apos) [] [] pos) (rd G W (eMth0 c fm f)) := by
  obtain ⟨fa, fd, ps, C, Mt, F, hb⟩ := h.ex
  rw [← fx.hK] at C Mt F hb
  refine PE.to (pe_meth0 ho C Mt (F.mono hj) fx.hr hb .nil (ew_passes fx.toFx0) ht) fun σ H Q ⟨am, e0, rho, mu, F0, s, o, mu', e1, kk⟩ => ?_
  refine rd_then s e1 (Ko.x kk) fun vl m1 v H1 F1 e2 q s1 rv => ?_
  have k1 := Ko.pre s.sub s.mr q kk
  by_cases hc : insC c vl.d = true
  case neg =>
    rw [if_neg hc] at e2
    cases e2
  rw [if_pos hc] at e2
  cases hv : vl.d with
  | ins c' ds0 =>
    rw [hv] at hc rv e2
    have ec : c' = c := of_decide_eq_true hc
    subst ec
    cases rv with
    | ins h1 h2 h3 =>
      refine ⟨_, _, _, rfl, s1.sub _ _ h1, zip_none hno, ?_⟩
      show spF G 1 fm [_] H1 Q (EW W)
      exact own_then (ag := aNil) (E := fun _ => EW W) (σ := σ) (fun cls d H' => (flat_eq fl σ cls d H').symm) s1 rfl (.cons (Rp.ins h1 h2 h3) .nil) e2 k1
  | _ => rw [hv] at hc; cases hc
end
end Mi
end
section
set_option Elab.async false
set_option linter.all false
set_option maxRecDepth 100000
set_option maxHeartbeats 4000000
namespace Mi
open PySem PySem.Spec PyProof.Rows L2
open Evl (Ex)
/-! ### zip of a tuple with a list, of a list with a tuple -/
/-- pairs of the items that S1 and S2 tell -/
def IzS (S1 S2 : Hp → List V → Prop) : It where
  go := fun i H => ∃ (xs ys : List V) (x y : V), S1 H xs ∧ S2 H ys ∧ xs[i]? = some x ∧ ys[i]? = some y
  yld := fun i H v H' => ∃ T x y, v = .ref T ∧ H T = none ∧ H' = upd H T (.tup [x, y]) ∧ (∀ xs, S1 H xs → xs[i]? = some x) ∧ ∀ ys, S2 H ys → ys[i]? = some y
  stop := fun i H => ∃ xs ys : List V, S1 H xs ∧ S2 H ys ∧ i = min xs.length ys.length
theorem turn_zipS {P : Program} {w : World} {K : PySem.W.Frag} {elts : List Expr} {kk : Nat} {tpos : Pos} {S1 S2 : Hp → List V → Prop} {a b z TI TO i1 i2 : Addr} {st1 st2 : Nat → Heap → Prop} (N1 : Inn P w K S1 a i1 st1) (N2 : Inn P w K S2 b i2 st2) (D : ZipSep2 z TI TO i1 i2 [i1, a] [i2, b]) :
    Turn P w K (.Tuple elts kk tpos) (IzS S1 S2) [z, TI, TO, i1, i2] z (fun i h => IsZip h z TI TO .none ∧ IsTupOf2 h TI (.ref i1) (.ref i2) ∧ (∃ x y, IsTupOf2 h TO x y) ∧ st1 i h ∧ st2 i h) where
  mem := by simp
  obj := fun i h st c hc => by
    obtain ⟨hz, hTI, ⟨x, y, hTO⟩, h1, h2⟩ := st
    have e' : c = z ∨ c = TI ∨ c = TO ∨ c = i1 ∨ c = i2 := by simpa using hc
    rcases e' with q | q | q | q | q
    · rw [q]; exact ⟨_, hz, fun v q => nomatch q⟩
    · rw [q]; exact ⟨_, hTI, fun v q => nomatch q⟩
    · rw [q]; exact ⟨_, hTO, fun v q => nomatch q⟩
    · rw [q]; exact N1.obj i h h1
    · rw [q]; exact N2.obj i h h2
  keep := fun i h h' st k => by
    obtain ⟨hz, hTI, ⟨x, y, hTO⟩, h1, h2⟩ := st
    exact ⟨k z (by simp) _ hz, k TI (by simp) _ hTI, ⟨x, y, k TO (by simp) _ hTO⟩, N1.keep i h h' h1 (k i1 (by simp)), N2.keep i h h' h2 (k i2 (by simp))⟩
  item := fun X hP hw hK hc i pins s σ H E I hf st hg => by
    obtain ⟨hz, hTI, ⟨x0, y0, hTO⟩, h1, h2⟩ := st
    obtain ⟨xs, ys, x, y, hqx, hqy, hx, hy⟩ := hg
    obtain ⟨its1, St1, rv1, D1, hS1, hT1⟩ := N1.draws X hP hw hK hc I hqx
    obtain ⟨its2, St2, rv2, D2, hS2, hT2⟩ := N2.draws X hP hw hK hc I hqy
    obtain ⟨u, hu, ru⟩ := rv1.get hx
    obtain ⟨u2, hu2, ru2⟩ := rv2.get hy
    have hi1 : i < its1.length := (List.getElem?_eq_some_iff.mp hu).1
    have hi2 : i < its2.length := (List.getElem?_eq_some_iff.mp hu2).1
    have lz : z < s.heap.objs.size := Heap.lt_size hz
    have l1 : i1 < s.heap.objs.size := let ⟨_, q, _⟩ := N1.obj i _ h1; Heap.lt_size q
    have l2 : i2 < s.heap.objs.size := let ⟨_, q, _⟩ := N2.obj i _ h2; Heap.lt_size q
    refine PySem.wpAny_pyNext_zipD2_item D D1 D2 hz hTI hTO (hT1 i h1) (hT2 i h2) hi1 hi2 fun v1 v2 h' tk hv1 hv2 hz' hTO' hs1 hs2 hT hsz hk => ?_
    have ev1 : v1 = u := Option.some.inj (hv1.symm.trans hu)
    have ev2 : v2 = u2 := Option.some.inj (hv2.symm.trans hu2)
    subst ev1 ev2
    refine ⟨_, rfl, ?_⟩
    refine wpAny_letOwnedTupleGo_zip (s := { s with heap := h', toks := tk }) hz' fun h'' z'' sb => ?_
    have hT3 : h''.get? s.heap.objs.size = some { cls := .type "tuple", data := .seq #[v1, v2] } := (sb.2 _ (Nat.ne_of_gt lz)).trans hT
    have new : ObjOk X.prog X.w (upd H s.heap.objs.size (.tup [x, y])) h'' s.heap.objs.size (.tup [x, y]) :=
      ⟨show 2 ≤ sizeLine by decide, [v1, v2], .cons ru (.cons ru2 .nil), _, hT3, rfl, _, rfl⟩
    have I1 : Inv X pins σ (upd H s.heap.objs.size (.tup [x, y])) { s with heap := h'', toks := tk } :=
      I.turnedNew (ch := [z, TI, TO, i1, i2]) (fun c o hb q => (sb.2 c (fun q' => hb (by simp [q']))).trans (hk c o (fun q' => hb (by simp [q'])) (fun q' => hb (by simp [q'])) (fun q' => hb (by simp [q'])) (fun q' => hb (by simp [q'])) q)) hf (Nat.le_refl _) new
    refine ⟨.ref s.heap.objs.size, _, I1, rfl, ⟨_, x, y, rfl, I.hok.fresh (Nat.le_refl _), rfl, fun l hl => by rw [N1.one X hP hw hK I hl hqx]; exact hx, fun l hl => by rw [N2.one X hP hw hK I hl hqy]; exact hy⟩, ⟨z'', ?_, ⟨v1, v2, ?_⟩, ?_, ?_⟩, fun c hcm => ?_⟩
    · exact (sb.2 _ D.TIz).trans (hk _ _ D.TIz D.TITO D.TIi1 D.TIi2 hTI)
    · exact (sb.2 _ D.TOz).trans hTO'
    · exact N1.keep _ _ _ (hS1 _ _ hs1) fun o q => (sb.2 _ D.zi1.symm).trans q
    · exact N2.keep _ _ _ (hS2 _ _ hs2) fun o q => (sb.2 _ D.zi2.symm).trans q
    · have hlt : c < s.heap.objs.size := by
        have e' : c = z ∨ c = TI ∨ c = TO ∨ c = i1 ∨ c = i2 := by simpa using hcm
        rcases e' with q | q | q | q | q
        · rw [q]; exact lz
        · rw [q]; exact Heap.lt_size hTI
        · rw [q]; exact Heap.lt_size hTO
        · rw [q]; exact l1
        · rw [q]; exact l2
      rw [upd_ne (Nat.ne_of_lt hlt)]
      exact (hf c hcm).1
  done := fun X hP hw hK hc i pins s σ H E I hf st hg => by
    obtain ⟨hz, hTI, ⟨x0, y0, hTO⟩, h1, h2⟩ := st
    obtain ⟨xs, ys, hqx, hqy, hend⟩ := hg
    obtain ⟨its1, St1, rv1, D1, hS1, hT1⟩ := N1.draws X hP hw hK hc I hqx
    obtain ⟨its2, St2, rv2, D2, hS2, hT2⟩ := N2.draws X hP hw hK hc I hqy
    have l1 := rv1.length
    have l2 := rv2.length
    exact PySem.wpAny_pyNext_zipD2_end D D1 D2 hz hTI hTO (hT1 i h1) (hT2 i h2) (by omega) (by omega) (by omega) fun h' tk hk => ⟨rfl, I.turnedL (t' := tk) (ch := [z, TI, TO, i1, i2]) (fun c o hb q =>
      hk c o (fun q' => hb (by simp [q'])) (fun q' => hb (by simp [q'])) (fun q' => hb (by simp [q'])) (fun q' => hb (by simp [q'])) q) hf⟩
  self := fun A i s Q E st h => wpAny_pyIter_zip st.1 h
/-- five new cells over two older ones -/
theorem nmem {x p q : Addr} (h1 : x ≠ p) (h2 : x ≠ q) : x ∉ [p, q] := fun h => by
  rcases List.mem_cons.mp h with y | y
  · exact h1 y
  · exact h2 (List.mem_singleton.mp y)
theorem add_ne {n : Nat} (i j : Nat) (h : i ≠ j) : (n + i : Nat) ≠ n + j := by omega
theorem sep5 (n a b : Nat) (la : a < n) (lb : b < n) : ZipSep2 (n + 4) (n + 2) (n + 3) n (n + 1) [n, a] [n + 1, b] where
  TIz := add_ne 2 4 (by decide)
  TOz := add_ne 3 4 (by decide)
  TITO := add_ne 2 3 (by decide)
  TIi1 := add_ne 2 0 (by decide)
  mem1 := List.mem_cons_self
  zf1 := nmem (add_ne 4 0 (by decide)) (Nat.ne_of_gt (Nat.lt_of_lt_of_le la (Nat.le_add_right _ _)))
  Tf1 := nmem (add_ne 3 0 (by decide)) (Nat.ne_of_gt (Nat.lt_of_lt_of_le la (Nat.le_add_right _ _)))
  TIi2 := add_ne 2 1 (by decide)
  mem2 := List.mem_cons_self
  zf2 := nmem (add_ne 4 1 (by decide)) (Nat.ne_of_gt (Nat.lt_of_lt_of_le lb (Nat.le_add_right _ _)))
  Tf2 := nmem (add_ne 3 1 (by decide)) (Nat.ne_of_gt (Nat.lt_of_lt_of_le lb (Nat.le_add_right _ _)))
  sep1_2 := nmem (add_ne 0 1 (by decide)) (Nat.ne_of_gt lb)
  sep2_1 := nmem (add_ne 1 0 (by decide)) (Nat.ne_of_gt (Nat.lt_of_lt_of_le la (Nat.le_add_right _ _)))
/-- zip of a tuple and a list: tl, else of a list and a tuple -/
def iZipM (K : PySem.W.Frag) (ta : TA) : TI := fun σ H R => ta σ H fun vs H1 => ∃ a b xs ys, vs = [.ref a, .ref b] ∧ ((SqT K H1 a xs ∧ SqL K H1 b ys ∧ R (IzS (fun H xs => SqT K H a xs) fun H ys => SqL K H b ys) H1) ∨ (SqL K H1 a xs ∧ SqT K H1 b ys ∧ R (IzS (fun H xs => SqL K H a xs) fun H ys => SqT K H b ys) H1))
theorem pi_zipM {X : Cx} {e e2 : Expr} {ta : TA} {p pos tpos : Pos} {elts : List Expr} {kk : Nat} (hg : Gl X "zip") (hm : X.mg "zip" = none) (ha : PA X [e, e2] ta)
    (hs : starEach [e, e2] X.env = (false, eval e X.env) :: starEach [e2] X.env) (hpl : (backTo pos (starEach [e2] X.env)).any (·.1) = false) :
    PI X (.Tuple elts kk tpos) (.Call (.Name "zip" p) [e, e2] [] pos) (iZipM X.K ta) := by
  refine ⟨fun pins s σ H R I h => ?_⟩
  refine Call_ (ld_blt I hg hm PyProof.Rows.boot_zip (PyProof.Rows.callWith_type1 (thn (ha.run pos pins s σ H _ I h) fun us s1 ⟨vs, H1, I1, r1, q1⟩ => ?_) hs hpl))
  obtain ⟨a, b, xs, ys, ex, q1⟩ := q1
  subst ex
  cases r1 with
  | cons r rr =>
    cases rr with
    | cons r' rr =>
      cases rr
      cases r
      cases r'
      have fresh5 : ∀ c, c ∈ [s1.heap.objs.size + 4, s1.heap.objs.size + 2, s1.heap.objs.size + 3, s1.heap.objs.size, s1.heap.objs.size + 1] → FpOk X pins H1 c := fun c hcm => by
        have e' : c = s1.heap.objs.size + 4 ∨ c = s1.heap.objs.size + 2 ∨ c = s1.heap.objs.size + 3 ∨ c = s1.heap.objs.size ∨ c = s1.heap.objs.size + 1 := by simpa using hcm
        have hle : s1.heap.objs.size ≤ c := by
          rcases e' with z | z | z | z | z
          · rw [z]; exact Nat.le_add_right _ _
          · rw [z]; exact Nat.le_add_right _ _
          · rw [z]; exact Nat.le_add_right _ _
          · rw [z]; exact Nat.le_refl _
          · rw [z]; exact Nat.le_add_right _ _
        exact I1.fpOk hle (I1.hok.fresh hle)
      rcases q1 with ⟨hqx, hqy, q⟩ | ⟨hqx, hqy, q⟩
      · obtain ⟨its, rv, p1, _⟩ := I1.tuple hqx
        obtain ⟨its2, rv2, p2, _⟩ := I1.list hqy
        have la : a < s1.heap.objs.size := let ⟨_, y, _⟩ := id p1; Heap.lt_size y
        have lb : b < s1.heap.objs.size := p2.lt
        refine zip_begins2 (begins_tuple a its.toArray) (begins_list b its2.toArray) p1 p2.isList fun h' hz hTI hTO h1 h2 hsz hk => wpAny_pyIter_zip hz ?_
        exact ⟨s1.heap.objs.size + 4, [s1.heap.objs.size + 4, s1.heap.objs.size + 2, s1.heap.objs.size + 3, s1.heap.objs.size, s1.heap.objs.size + 1], _, _, H1, rfl, I1.kept (t' := s1.toks) hk, turn_zipS (inn_tup (Nat.ne_of_lt la)) (inn_list (Nat.ne_of_lt (Nat.lt_succ_of_lt lb))) (sep5 _ a b la lb), ⟨hz, hTI, ⟨_, _, hTO⟩, ⟨_, h1, rfl, rfl⟩, ⟨_, h2, rfl, rfl⟩⟩, fresh5, q⟩
      · obtain ⟨its, rv, p1, _⟩ := I1.list hqx
        obtain ⟨its2, rv2, p2, _⟩ := I1.tuple hqy
        have la : a < s1.heap.objs.size := p1.lt
        have lb : b < s1.heap.objs.size := let ⟨_, y, _⟩ := id p2; Heap.lt_size y
        refine zip_begins2 (begins_list a its.toArray) (begins_tuple b its2.toArray) p1.isList p2 fun h' hz hTI hTO h1 h2 hsz hk => wpAny_pyIter_zip hz ?_
        exact ⟨s1.heap.objs.size + 4, [s1.heap.objs.size + 4, s1.heap.objs.size + 2, s1.heap.objs.size + 3, s1.heap.objs.size, s1.heap.objs.size + 1], _, _, H1, rfl, I1.kept (t' := s1.toks) hk, turn_zipS (inn_list (Nat.ne_of_lt la)) (inn_tup (Nat.ne_of_lt (Nat.lt_succ_of_lt lb))) (sep5 _ a b la lb), ⟨hz, hTI, ⟨_, _, hTO⟩, ⟨_, h1, rfl, rfl⟩, ⟨_, h2, rfl, rfl⟩⟩, fresh5, q⟩
section
variable {gb : Bool} {X : Cx} {G : Cl} {W : WX} {k : Nat} {pos : Pos} {a b c e : Expr} {f g h : EM} {x : Str} {ag : AM} {es : List Expr} {tf : BM} {st : Stmt} {sf : SM} {am : Addr} {e0 : En} {H F H' F' H1 F1 : Hp} {rho : List Slot} {mu mu' m1 : Mu} {σ : L2.St}
theorem zm_it {S1 S2 : Hp → List V → Prop} {xs ys : List V} (h1 : ∀ H', Ex F1 H' → S1 H' xs) (h2 : ∀ H', Ex F1 H' → S2 H' ys) : ZipIt (IzS S1 S2) F1 xs ys where
  go := fun i H' x y z e1 e2 => ⟨xs, ys, x, y, h1 H' z, h2 H' z, e1, e2⟩
  yl := fun i H' v H2 z h => let ⟨T, x, y, e1, e2, e3, e4, e5⟩ := h; ⟨T, x, y, e1, e2, e3, e4 xs (h1 H' z), e5 ys (h2 H' z)⟩
  st := fun i H' z h => ⟨xs, ys, h1 H' z, h2 H' z, h⟩
/-- what such a zip is given -/
def zipAM : List D → Option (List D)
  | [x, y] => match tupD x, seqD y with
    | some dx, some dy => some (zipD dx dy)
    | _, _ => (match seqD x, tupD y with
      | some dx, some dy => some (zipD dx dy)
      | _, _ => none)
  | _ => none
theorem zipM_at {vs : List V} {ds zs : List D} (r : RpAll G F am vs ds) (h : zipAM ds = some zs) : ∃ p q xs ys dxs dys, vs = [.ref p, .ref q] ∧ zs = zipD dxs dys ∧ RpAll G F am xs dxs ∧ RpAll G F am ys dys ∧ ((SqT G.K F p xs ∧ SqL G.K F q ys) ∨ (SqL G.K F p xs ∧ SqT G.K F q ys)) := by
  unfold zipAM at h
  split at h
  · rename_i x y
    cases r with
    | cons r1 rr =>
      cases rr with
      | cons r2 rr =>
        cases rr
        split at h
        · rename_i dx dy e1 e2
          cases h
          obtain ⟨p, xs, rfl, h1, h2⟩ := tupD_at r1 e1
          obtain ⟨q, ys, rfl, h3, h4⟩ := seqD_at r2 e2
          exact ⟨p, q, xs, ys, dx, dy, rfl, rfl, h2, h4, .inl ⟨h1, h3⟩⟩
        · split at h
          · rename_i dx dy e1 e2
            cases h
            obtain ⟨p, xs, rfl, h1, h2⟩ := seqD_at r1 e1
            obtain ⟨q, ys, rfl, h3, h4⟩ := tupD_at r2 e2
            exact ⟨p, q, xs, ys, dx, dy, rfl, rfl, h2, h4, .inr ⟨h1, h3⟩⟩
          · cases h
  · cases h
def sForM (f : AM) (body : D → SM) : SM := sWith f fun ds rho mu => match zipAM ds with
  | some zs => forL body zs rho mu
  | none => none
theorem s_forM {gt : TG} {put : D → List Slot → Option (List Slot)} (hK : X.K = G.K) (h : PS X st (tFor (iZipM X.K (rdA G W ag)) gt (rdS G W sf))) (hg : TgOk G gt put) : PS X st (rdS G W (sForM ag (sBody put sf))) := by
  refine PS.to h fun Dn σ H ⟨am, e0, rho, mu, F, s, r, mu', e, kk⟩ => ?_
  refine with_useA s e kk fun ds m1 vs H1 F1 e1 q s1 rv k1 => ?_
  cases hz : zipAM ds with
  | none => rw [hz] at e1; cases e1
  | some zs =>
    rw [hz] at e1
    obtain ⟨p, q2, xs, ys, dxs, dys, rfl, rfl, rx, ry, hh⟩ := zipM_at rv hz
    rw [hK]
    rcases hh with ⟨h1, h2⟩ | ⟨h1, h2⟩
    · exact ⟨p, q2, xs, ys, rfl, .inl ⟨Evl.ex_t s1.sub h1, Evl.ex_l s1.sub h2, zip_go hg (zm_it (fun H' z => Evl.ex_t z h1) fun H' z => Evl.ex_l z h2) rx ry s1 e1 k1⟩⟩
    · exact ⟨p, q2, xs, ys, rfl, .inr ⟨Evl.ex_l s1.sub h1, Evl.ex_t s1.sub h2, zip_go hg (zm_it (fun H' z => Evl.ex_l z h1) fun H' z => Evl.ex_t z h2) rx ry s1 e1 k1⟩⟩
def eLcM (fi : AM) (put : D → List Slot → Option (List Slot)) (vs : List Nat) (t : BM) (f : EM) : EM := fun rho => M.bind (fi rho) fun v => fun mu => match zipAM v with
  | some zs => (match lcL put t f (wipeR rho vs) zs [] mu with
    | some (out, mu') => some (.ok (.fr out), mu')
    | none => none)
  | none => none
theorem lcM_to {gt : TG} {put : D → List Slot → Option (List Slot)} {vs : List Nat} (hK : X.K = G.K) (hg : TgLc G gt put vs) {Q : VK} (q : rd G W (eLcM ag put vs tf f) σ H Q) : tLc (iZipM X.K (rdA G W ag)) gt (rdT G WN tf) (rd G WN f) vs σ H Q := by
  obtain ⟨am, e0, rho, mu, F, s, o, mu', e, kk⟩ := q
  refine rdA_then s e kk.x fun ds m1 xs0 H1 F1 e1 q s1 rv => ?_
  cases hz : zipAM ds with
  | none => rw [hz] at e1; cases e1
  | some zs =>
    rw [hz] at e1
    obtain ⟨out, rfl, e2⟩ := lc_out e1
    obtain ⟨p, q2, xs, ys, dxs, dys, rfl, rfl, rx, ry, hh⟩ := zipM_at rv hz
    rw [hK]
    have k1 := Kd.pre s.sub s.mr q (show Kd G am mu H F mu' Q (.fr out) from kk)
    rcases hh with ⟨h1, h2⟩ | ⟨h1, h2⟩
    · exact ⟨p, q2, xs, ys, rfl, .inl ⟨Evl.ex_t s1.sub h1, Evl.ex_l s1.sub h2, fun Dl nD => lcz_go hg (zm_it (fun H' z => Evl.ex_t z h1) fun H' z => Evl.ex_l z h2) rx ry s1 nD e2 k1⟩⟩
    · exact ⟨p, q2, xs, ys, rfl, .inr ⟨Evl.ex_l s1.sub h1, Evl.ex_t s1.sub h2, fun Dl nD => lcz_go hg (zm_it (fun H' z => Evl.ex_l z h1) fun H' z => Evl.ex_t z h2) rx ry s1 nD e2 k1⟩⟩
/-- for over zip: alike, or mixed -/
def sForZM (f : AM) (body : D → SM) : SM := sWith f fun ds rho mu => match zipA2 ds with
  | some zs => forL body zs rho mu
  | none => (match zipAM ds with
    | some zs => forL body zs rho mu
    | none => none)
theorem forZM_or {fa : AM} {body : D → SM} {rho : List Slot} {mu : Mu} {r : Res × Mu} (h : sForZM fa body rho mu = some r) : sForZ fa body rho mu = some r ∨ sForM fa body rho mu = some r := by
  unfold sForZM sWith at h
  unfold sForZ sForM sWith
  cases e : fa rho mu with
  | none => rw [e] at h; cases h
  | some o =>
    obtain ⟨o, m⟩ := o
    rw [e] at h
    cases o with
    | ex c ds => exact .inl h
    | ok v =>
      dsimp only at h ⊢
      cases z : zipA2 v with
      | some zs => rw [z] at h; exact .inl h
      | none => rw [z] at h; exact .inr h
def eLcZM (fi : AM) (put : D → List Slot → Option (List Slot)) (vs : List Nat) (t : BM) (f : EM) : EM := fun rho => M.bind (fi rho) fun v => fun mu => match zipA2 v with
  | some zs => (match lcL put t f (wipeR rho vs) zs [] mu with
    | some (out, mu') => some (.ok (.fr out), mu')
    | none => none)
  | none => (match zipAM v with
    | some zs => (match lcL put t f (wipeR rho vs) zs [] mu with
      | some (out, mu') => some (.ok (.fr out), mu')
      | none => none)
    | none => none)
theorem lcZM_or {fa : AM} {put : D → List Slot → Option (List Slot)} {vs : List Nat} {t : BM} {f : EM} {rho : List Slot} {mu : Mu} {r : Out Vl × Mu} (h : eLcZM fa put vs t f rho mu = some r) : eLcZ fa put vs t f rho mu = some r ∨ eLcM fa put vs t f rho mu = some r := by
  unfold eLcZM M.bind at h
  unfold eLcZ eLcM M.bind
  cases e : fa rho mu with
  | none => rw [e] at h; cases h
  | some o =>
    obtain ⟨o, m⟩ := o
    rw [e] at h
    cases o with
    | ex c ds => exact .inl h
    | ok v =>
      dsimp only at h ⊢
      cases z : zipA2 v with
      | some zs => rw [z] at h; exact .inl h
      | none => rw [z] at h; exact .inr h
section
variable {elt : Expr} {ifs elts : List Expr} {scope : Scope} {own : List (Str × Nat)} {gt : TG} {put : D → List Slot → Option (List Slot)} {y : Str} {py spos tpos : Pos} {i kz : Nat} {p p2 : Pos}
theorem q_forM {body : List Stmt} (fx : Fx gb X G W k) (hgl : Gl X "zip") (hm : X.mg "zip" = none) (hst : starEach [a, b] X.env = (false, eval a X.env) :: starEach [b] X.env) (hpl : (backTo p2 (starEach [b] X.env)).any (·.1) = false) (hs : ∀ x, foldedSetIterable (.Call (.Name "zip" p) [a, b] [] p2) X.env x = pure x)
    (ha : PA X [a, b] (rdA G W ag)) (hgg : PG X (.Tuple elts kz tpos) gt) (hg : TgOk G gt put) (hb : PSs X body (rdS G W sf)) : PS X (.For (.Tuple elts kz tpos) (.Call (.Name "zip" p) [a, b] [] p2) body [] pos) (rdS G W (sForM ag (sBody put sf))) :=
  s_forM fx.hK (ps_for fx.po fx.calm (pi_zipM hgl hm ha hst hpl) hgg hb hs) hg
/-- both ways at once -/
theorem q_forZM {body : List Stmt} (fx : Fx gb X G W k) (hgl : Gl X "zip") (hm : X.mg "zip" = none) (hst : starEach [a, b] X.env = (false, eval a X.env) :: starEach [b] X.env) (hpl : (backTo p2 (starEach [b] X.env)).any (·.1) = false) (hs : ∀ x, foldedSetIterable (.Call (.Name "zip" p) [a, b] [] p2) X.env x = pure x)
    (ha : PA X [a, b] (rdA G W ag)) (hgg : PG X (.Tuple elts kz tpos) gt) (hg : TgOk G gt put) (hb : PSs X body (rdS G W sf)) : PS X (.For (.Tuple elts kz tpos) (.Call (.Name "zip" p) [a, b] [] p2) body [] pos) (rdS G W (sForZM ag (sBody put sf))) := by
  have h1 := q_forZ (pos := pos) fx hgl hm hst hpl hs ha hgg hg hb
  have h2 := q_forM (pos := pos) fx hgl hm hst hpl hs ha hgg hg hb
  refine ⟨fun pins s σ H Dn I ⟨am, e0, rho, mu, F, sa, r, mu', e, kk⟩ => ?_⟩
  rcases forZM_or e with e | e
  · exact h1.run pins s σ H Dn I ⟨am, e0, rho, mu, F, sa, r, mu', e, kk⟩
  · exact h2.run pins s σ H Dn I ⟨am, e0, rho, mu, F, sa, r, mu', e, kk⟩
theorem q_lcM (own : List (Str × Nat)) (fx : Fx gb X G W k) (hN : X.N.Nodup) (hgl : Gl X "zip") (hm : X.mg "zip" = none) (hst : starEach [a, b] X.env = (false, eval a X.env) :: starEach [b] X.env) (hpl : (backTo p2 (starEach [b] X.env)).any (·.1) = false) (hs : ∀ x, foldedSetIterable (.Call (.Name "zip" p) [a, b] [] p2) X.env x = pure x) (ok : blkC X.N X.env.scope scope own = true)
    (ha : PA X [a, b] (rdA G W ag)) (hgg : Bk gb X G k scope fun Y => PG Y (.Tuple elts kz tpos) gt) (hg : TgLc G gt put (own.map (·.2))) (ht : Bk gb X G k scope fun Y => PTs Y ifs (rdT G WN tf)) (he : Bk gb X G k scope fun Y => PE Y elt (rd G WN f)) :
    PE X (.ListComp elt [⟨.Tuple elts kz tpos, .Call (.Name "zip" p) [a, b] [] p2, ifs, 0⟩] scope pos) (rd G W (eLcM ag put (own.map (·.2)) tf f)) :=
  PE.to (pe_lc fx.calm hN (pi_zipM hgl hm ha hst hpl) (blkOk_by ok) (fun s H C cl fp => hgg s H C cl fp (fx.blk ..)) (fun s H C cl fp => ht s H C cl fp (fx.blk ..)) (fun s H C cl fp => he s H C cl fp (fx.blk ..)) hs) fun _ _ _ q => lcM_to fx.hK hg q
theorem q_lcZM (own : List (Str × Nat)) (fx : Fx gb X G W k) (hN : X.N.Nodup) (hgl : Gl X "zip") (hm : X.mg "zip" = none) (hst : starEach [a, b] X.env = (false, eval a X.env) :: starEach [b] X.env) (hpl : (backTo p2 (starEach [b] X.env)).any (·.1) = false) (hs : ∀ x, foldedSetIterable (.Call (.Name "zip" p) [a, b] [] p2) X.env x = pure x) (ok : blkC X.N X.env.scope scope own = true)
    (ha : PA X [a, b] (rdA G W ag)) (hgg : Bk gb X G k scope fun Y => PG Y (.Tuple elts kz tpos) gt) (hg : TgLc G gt put (own.map (·.2))) (ht : Bk gb X G k scope fun Y => PTs Y ifs (rdT G WN tf)) (he : Bk gb X G k scope fun Y => PE Y elt (rd G WN f)) :
    PE X (.ListComp elt [⟨.Tuple elts kz tpos, .Call (.Name "zip" p) [a, b] [] p2, ifs, 0⟩] scope pos) (rd G W (eLcZM ag put (own.map (·.2)) tf f)) := by
  have h1 := q_lcZ (pos := pos) own fx hN hgl hm hst hpl hs ok ha hgg hg ht he
  have h2 := q_lcM (pos := pos) own fx hN hgl hm hst hpl hs ok ha hgg hg ht he
  refine ⟨fun pins s σ H Q I ⟨am, e0, rho, mu, F, sa, r, mu', e, kk⟩ => ?_⟩
  rcases lcZM_or e with e | e
  · exact h1.run pins s σ H Q I ⟨am, e0, rho, mu, F, sa, r, mu', e, kk⟩
  · exact h2.run pins s σ H Q I ⟨am, e0, rho, mu, F, sa, r, mu', e, kk⟩
end
end
end Mi
end
section
set_option Elab.async false
set_option linter.all false
set_option maxRecDepth 100000
set_option maxHeartbeats 4000000
namespace Mi
open PySem PySem.Spec PyProof.Rows L2
open Evl (Ex)
/-! ### from a method with its binding to the rest; what a written class says of == , != and bool -/
section
variable {P : Program} {w : World} {G : Cl} {mg : Str → Option Value} {base : Heap} {k c : Nat}
theorem MthF.toM {m qual : Str} {st : Stmt} {ps : List Str} {fm : FM} {n : Nat} (h : MthF P w G mg base k c m qual st ps fm) (hl : ps.length = n + 1) (hb : ∀ f fd, FunD G.K m qual (defArgs st) (defBody st) (defScope st) [] [] f fd → Binds G.K fd ps []) : MthM P w G mg base k c m n fm := by
  obtain ⟨f, fd, C, M, F, U⟩ := h.ex
  exact ⟨f, fd, ps, C, M, by rw [← hl]; exact F, hb f fd U⟩
theorem MakF.toM {x qual : Str} {st : Stmt} {ps : List Str} {fi : IM} {n : Nat} (h : MakF P w G mg base k x c qual st ps fi) (hl : ps.length = n + 1) (hb : ∀ f fd, FunD G.K "__init__" qual (defArgs st) (defBody st) (defScope st) [] [] f fd → Binds G.K fd ps []) : MakM P w G mg base k x c n fi := by
  obtain ⟨f, fd, C, F, M, U⟩ := h.ex
  exact ⟨f, fd, ps, C, by rw [← hl]; exact F, M, hb f fd U⟩
def nfC (n : Nat) : D → Bool
  | .ty a => tysL.contains a
  | .cls c => decide (c < n)
  | _ => false
theorem nfC_tab (n : Nat) : ∀ t, nfC n t = true → ∃ y r, tbC n t y = some r := by
  intro t h
  cases t with
  | ty a =>
    refine ⟨.ty "int", (a == "int" || (a == "bool" && "int" == "int")), ?_⟩
    show tbS a "int" = some _
    unfold tbS
    have h1 : tysL.contains a = true := h
    rw [h1]
    rfl
  | cls c =>
    refine ⟨.cls c, c == c, ?_⟩
    show (if decide (c < n) && decide (c < n) then some (c == c) else none) = some _
    have h1 : decide (c < n) = true := h
    rw [h1]
    rfl
  | _ => cases h
theorem eqM_of {fm : FM} {n : Nat} (h : MthM P w G mg base k c "__eq__" 1 fm) (hf : ∀ t, nfC n t = true → PySem.W.notFirst G.K (G.ca c) (vK G t) = true) : EqM P w G mg base k c fm (nfC n) := by
  obtain ⟨f, fd, ps, C, M, F, hb⟩ := h.ex
  exact ⟨⟨f, fd, ps, M.at_, M.fn, F, hb⟩, hf⟩
/-- what is asked of a written class with an own __eq__ -/
theorem eqB_first {K : PySem.W.Frag} {xs : List (Str × List Str)} {T : List (Addr × Str)} (h : eqB K ((clOf K xs T).ca c) (xs.map (·.1)) = true) : ∀ t, nfC xs.length t = true → PySem.W.notFirst K ((clOf K xs T).ca c) (vK (clOf K xs T) t) = true := by
  unfold eqB at h
  simp only [Bool.and_eq_true, List.all_eq_true] at h
  obtain ⟨h1, h2, _⟩ := h
  intro t ht
  cases t with
  | ty a => exact h1 a (List.contains_iff_mem.mp ht)
  | cls c' =>
    have hc : c' < xs.length := of_decide_eq_true ht
    refine h2 _ ?_
    rw [List.getD_eq_getElem?_getD, List.getElem?_eq_getElem hc]
    exact List.mem_map_of_mem (List.getElem_mem hc)
  | _ => cases ht
theorem eqB_ne {K : PySem.W.Frag} {xs : List (Str × List Str)} {T : List (Addr × Str)} (h : eqB K ((clOf K xs T).ca c) (xs.map (·.1)) = true) : NeM (clOf K xs T) c := by
  unfold eqB at h
  simp only [Bool.and_eq_true] at h
  obtain ⟨_, _, h1, h2, _⟩ := h
  exact ⟨He.eqO_ok h1, of_decide_eq_true h2⟩
theorem eqB_tr {K : PySem.W.Frag} {xs : List (Str × List Str)} {T : List (Addr × Str)} (h : eqB K ((clOf K xs T).ca c) (xs.map (·.1)) = true) : TruF (clOf K xs T).K ((clOf K xs T).ca c) := by
  unfold eqB at h
  simp only [Bool.and_eq_true] at h
  obtain ⟨_, _, _, _, h1, h2⟩ := h
  exact ⟨He.eqO_ok h1, He.eqO_ok h2⟩
end
end Mi
end
section
set_option Elab.async false
set_option linter.all false
set_option maxRecDepth 100000
set_option maxHeartbeats 4000000
namespace Mi
open PySem PySem.Spec PyProof.Rows L2
open Evl (Ex)
/-! ### for x in reversed(..) -/
section
variable {gb : Bool} {X : Cx} {G : Cl} {W : WX} {k : Nat} {pos : Pos} {a b c e : Expr} {f g h : EM} {x : Str} {ag : AM} {es : List Expr} {tf : BM} {st : Stmt} {sf : SM} {am : Addr} {e0 : En} {H F H' F' H1 F1 : Hp} {rho : List Slot} {mu mu' m1 : Mu} {σ : L2.St}
def sForV (f : EM) (body : D → SM) : SM := sWith f fun v rho mu => match anyD v.d with
  | some ds => forL body ds.reverse rho mu
  | none => none
theorem rev_at {xs : List V} {ds : List D} {i : Nat} {v : V} (r : RpAll G F am xs ds) (hi : i < xs.length) (h : xs[xs.length - 1 - i]? = some v) : ∃ d, ds.reverse.drop i = d :: ds.reverse.drop (i + 1) ∧ Rp G F am v d := by
  obtain ⟨d, e, q⟩ := r.getV h
  refine ⟨d, getD_drop ?_, q⟩
  rw [List.getElem?_reverse (by rw [← r.length]; exact hi), ← r.length]
  exact e
theorem s_forV {gt : TG} {put : D → List Slot → Option (List Slot)} (hK : X.K = G.K) (h : PS X st (tFor (RT.iRevA X.K (rd G W f)) gt (rdS G W sf))) (hg : TgOk G gt put) : PS X st (rdS G W (sForV f (sBody put sf))) := by
  refine PS.to h fun Dn σ H ⟨am, e0, rho, mu, F, s, r, mu', e, k⟩ => ?_
  refine with_use s e k fun vl m1 v H1 F1 e1 q s1 rv k1 => ?_
  cases hd : anyD vl.d with
  | none => rw [hd] at e1; cases e1
  | some ds =>
    rw [hd] at e1
    rw [hK]
    have step : ∀ (xs : List V), RpAll G F1 am xs ds → ∀ (i : Nat) (x : V) (σ' : L2.St) (H' : Hp), i < xs.length → xs[xs.length - 1 - i]? = some x →
        (∃ (rho' : List Slot) (m' : Mu) (F' : Hp), Ex F1 F' ∧ Sta G am e0 rho' m' σ' H' F' ∧ forL (sBody put sf) (ds.reverse.drop i) rho' m' = some (r, mu') ∧ KoS G W am e0 F' mu' Dn r) →
        gt x σ' H' fun σ2 H2 => rdS G W sf { Dn with nx := fun σ' H' => ∃ (rho' : List Slot) (m' : Mu) (F' : Hp), Ex F1 F' ∧ Sta G am e0 rho' m' σ' H' F' ∧ forL (sBody put sf) (ds.reverse.drop (i + 1)) rho' m' = some (r, mu') ∧ KoS G W am e0 F' mu' Dn r, ct := fun σ' H' => ∃ (rho' : List Slot) (m' : Mu) (F' : Hp), Ex F1 F' ∧ Sta G am e0 rho' m' σ' H' F' ∧ forL (sBody put sf) (ds.reverse.drop (i + 1)) rho' m' = some (r, mu') ∧ KoS G W am e0 F' mu' Dn r, bk := Dn.nx } σ2 H2 := by
      rintro xs rx i x σ' H' hi hx ⟨rho', m', F', q', s', e', k'⟩
      obtain ⟨d, hd', rd'⟩ := rev_at rx hi hx
      rw [hd'] at e'
      refine forL_turn (Tu := fun D σ H => gt x σ H fun σ2 H2 => rdS G W sf D σ2 H2) e' k' (fun σ2 H2 F2 rho2 m2 q2 s2 e2 k2 => ⟨rho2, m2, F2, q'.trans q2, s2, e2, k2⟩) fun r1 m2 e2 k2 => ?_
      unfold sBody at e2
      cases hp : put d rho' with
      | none => rw [hp] at e2; cases e2
      | some rho2 =>
        rw [hp] at e2
        exact hg am e0 rho' rho2 m' σ' H' F' x d _ s' (rd'.mono q') hp fun σ2 s2 => ⟨am, e0, rho2, m', F', s2, r1, m2, e2, k2⟩
    have done : ∀ (xs : List V), RpAll G F1 am xs ds → ∀ (σ' : L2.St) (H' : Hp), (∃ (rho' : List Slot) (m' : Mu) (F' : Hp), Ex F1 F' ∧ Sta G am e0 rho' m' σ' H' F' ∧ forL (sBody put sf) (ds.reverse.drop xs.length) rho' m' = some (r, mu') ∧ KoS G W am e0 F' mu' Dn r) → Dn.nx σ' H' := by
      rintro xs rx σ' H' ⟨rho', m', F', q', s', e', k'⟩
      rw [rx.length, ← List.length_reverse (as := ds), List.drop_length] at e'
      cases e'
      exact k' σ' H' F' (Ex.refl F') s'
    rcases any_cases hd with h1 | ⟨_, h1⟩
    · obtain ⟨a, xs, rfl, hq, rx⟩ := seqD_at rv h1
      exact ⟨a, xs, rfl, .inl ⟨Evl.ex_l s1.sub hq, RT.for_Itv (xs := xs) (fun i σ' H' => ∃ (rho' : List Slot) (m' : Mu) (F' : Hp), Ex F1 F' ∧ Sta G am e0 rho' m' σ' H' F' ∧ forL (sBody put sf) (ds.reverse.drop i) rho' m' = some (r, mu') ∧ KoS G W am e0 F' mu' Dn r)
        ⟨rho, m1, F1, Ex.refl F1, s1, e1, k1⟩ (fun i σ' H' ⟨_, _, F', q', s', _, _⟩ => Evl.ex_l s'.sub (Evl.ex_l q' hq)) (step xs rx) (done xs rx)⟩⟩
    · obtain ⟨a, xs, rfl, hq, rx⟩ := tupD_at rv h1
      exact ⟨a, xs, rfl, .inr ⟨Evl.ex_t s1.sub hq, RT.for_ItvT (xs := xs) (fun i σ' H' => ∃ (rho' : List Slot) (m' : Mu) (F' : Hp), Ex F1 F' ∧ Sta G am e0 rho' m' σ' H' F' ∧ forL (sBody put sf) (ds.reverse.drop i) rho' m' = some (r, mu') ∧ KoS G W am e0 F' mu' Dn r)
        ⟨rho, m1, F1, Ex.refl F1, s1, e1, k1⟩ (fun i σ' H' ⟨_, _, F', q', s', _, _⟩ => Evl.ex_t s'.sub (Evl.ex_t q' hq)) (step xs rx) (done xs rx)⟩⟩
theorem q_forV {tg : Expr} {gt : TG} {put : D → List Slot → Option (List Slot)} {p p2 : Pos} {body : List Stmt} (fx : Fx gb X G W k) (hgl : Gl X "reversed") (hm : X.mg "reversed" = none) (hst : starEach [a] X.env = (false, eval a X.env) :: starEach [] X.env) (hs : ∀ x, foldedSetIterable (.Call (.Name "reversed" p) [a] [] p2) X.env x = pure x)
    (ha : PE X a (rd G W f)) (hgg : PG X tg gt) (hg : TgOk G gt put) (hb : PSs X body (rdS G W sf)) : PS X (.For tg (.Call (.Name "reversed" p) [a] [] p2) body [] pos) (rdS G W (sForV f (sBody put sf))) :=
  s_forV fx.hK (ps_for fx.po fx.calm (RT.pi_revA hgl hm ha hst) hgg hb hs) hg
/-! ### xs[::-1] -/
def revL : D → Option Vl
  | .lst ds => some (.fr ds.reverse)
  | _ => none
theorem q_revL {k0 : Nat} {p1 p2 p3 : Pos} (fx : Fx0 X G W) (ha : PE X a (rd G W f)) : PE X (.Subscript a (.Slice none none (some (.UnaryOp .USub (.Constant (.int 1) k0 p1) p2)) p3) pos) (rd G W (eUn revL f)) := by
  refine PE.to (pe_revL ha) fun σ H Q ⟨am, e0, rho, mu, F, s, o, mu', e, kk⟩ => ?_
  refine rd_then s e (Ko.x kk) fun vl m1 v H1 F1 e1 q s1 rv => ?_
  have k1 := Ko.pre s.sub s.mr q kk
  obtain ⟨z, hz, rfl, rfl⟩ := of_some e1
  cases hv : vl.d with
  | lst ds =>
    rw [hv] at hz rv
    cases hz
    cases rv with
    | lst h1 r1 =>
      rw [fx.hK]
      exact ⟨_, _, rfl, Evl.sq_of (s1.sub _ _ h1), fun p n => Kd.lst s1.sub s1.mr r1.reverse n k1⟩
  | _ => rw [hv] at hz; cases hz
end
end Mi
end
section
set_option Elab.async false
set_option linter.all false
set_option maxRecDepth 100000
set_option maxHeartbeats 4000000
namespace Mi
open PySem PySem.Spec PyProof.Rows L2 HT
open Evl (Ex)
/-! ### t[::-1], t a tuple -/
section
variable {prog : Program} {w : World} {A : Around} {E : Value → Shared → Prop} {s : Shared}
theorem places_rev (n : Nat) : Builtin.Slice.slicePlaces ((n : Int) - 1) (-1) (-1) = n := by
  unfold Builtin.Slice.slicePlaces
  have h1 : ¬ ((-1 : Int) > 0) := by decide
  simp only [h1, if_false]
  by_cases h : (n : Int) - 1 > -1
  · rw [if_pos h, show (-(-1 : Int)) = 1 by decide, Int.ediv_one]
    omega
  · rw [if_neg h]
    omega
theorem applied_rev {sl : Addr} {vs : Value} {n : Nat} {Q : Int × Int × Nat → Shared → Prop} (hs : s.heap.IsSliceOf sl .none .none vs) (ps : IsPart vs (some (-1))) (h : Q ((n : Int) - 1, -1, n) s) : wpAny (model prog w) A (Builtin.Slice.sliceApplied (.ref sl) (pure (n : Int))) Q E s := by
  obtain ⟨os, hos, hcs, hds⟩ := id hs
  unfold Builtin.Slice.sliceApplied Builtin.Slice.sliceFields
  refine wpAny_bind (wpAny_bind (wpAny_field hos hds (x := .none) rfl (wpAny_bind (wpAny_field hos hds (x := .none) rfl (wpAny_bind (wpAny_field hos hds (x := vs) rfl (wpAny_pure ?_)))))))
  refine wpAny_bind (slicePart_ ps ?_)
  show wpAny _ _ (if ((-1 : Int) == 0) = true then _ else _) _ _ s
  rw [if_neg (by decide)]
  refine wpAny_bind (slicePart_ .none (wpAny_bind (slicePart_ .none (wpAny_bind (wpAny_pure ?_)))))
  show wpAny _ _ (pure ((n : Int) - 1, (-1 : Int), Builtin.Slice.slicePlaces ((n : Int) - 1) (-1) (-1))) _ _ s
  rw [places_rev]
  exact wpAny_pure h
theorem fm_congr {α β : Type} {f g : α → Option β} : ∀ {l : List α}, (∀ a ∈ l, f a = g a) → l.filterMap f = l.filterMap g
  | [], _ => rfl
  | a :: l, h => by
    rw [List.filterMap_cons, List.filterMap_cons, h a List.mem_cons_self, fm_congr fun x hx => h x (List.mem_cons_of_mem _ hx)]
theorem pick_rev (xs : Array Value) : ((List.range xs.size).filterMap fun (k : Nat) => xs[(((xs.size : Int) - 1) + (k : Int) * (-1)).toNat]?).toArray = xs.toList.reverse.toArray := by
  have e : (List.range xs.size).filterMap (fun (k : Nat) => xs[(((xs.size : Int) - 1) + (k : Int) * (-1)).toNat]?) = ((List.range xs.size).map fun k => xs.size - 1 - k).filterMap (xs[·]?) := by
    rw [List.filterMap_map]
    refine fm_congr fun k hk => ?_
    have := List.mem_range.mp hk
    show xs[(((xs.size : Int) - 1) + (k : Int) * (-1)).toNat]? = xs[xs.size - 1 - k]?
    rw [show (((xs.size : Int) - 1) + (k : Int) * (-1)).toNat = xs.size - 1 - k by omega]
  rw [e, PySem.W.krv_range, List.filterMap_reverse, PySem.W.krv_all]
theorem getItem_tuple_rev {t sl : Addr} {items : Array Value} {vs : Value} {Q : Value → Shared → Prop} (ht : IsTup s.heap t items) (hs : s.heap.IsSliceOf sl .none .none vs) (ps : IsPart vs (some (-1)))
    (h : Q (.ref s.heap.objs.size) { s with heap := s.heap.push { cls := .type "tuple", data := .seq items.toList.reverse.toArray } })
    (hsz : items.size ≤ sizeLine) : wpAny (model prog w) A (getItem (.ref t) (.ref sl)) Q E s := by
  have htake : sizeOk (.seq items.toList.reverse.toArray) := by
    show items.toList.reverse.toArray.size ≤ sizeLine
    rw [List.size_toArray, List.length_reverse, Array.length_toList]
    exact hsz
  obtain ⟨os, hos, hcs, hds⟩ := id hs
  have hTs : s.TypeIs (.ref sl) "slice" := ⟨os, hos, hcs⟩
  unfold getItem
  try with_reducible refine wpAny_holding ?_
  first | refine wpAny_bind (wpAny_pure ?_) | skip
  refine wpAny_bind (wpAny_sequenceKey ht.typeIs (by decide) ?_)
  refine wpAny_bind (wpAny_callSpecial?_slot (name := Str.ofString "__getitem__") ht.typeIs PyProof.Rows.slot_tuple_getitem
    (wpAny_call_entry PyProof.Rows.slot_tuple_getitem ht.typeIs entry_tuple_getitem ?_ (args_tuple_getitem _ _)))
  show wpAny _ _ (Builtin.Tuple.tupleItemsOf (.ref t) >>= _) _ _ s
  refine wpAny_bind (tupleItemsOf_ ht ?_)
  refine wpAny_bind (wpAny_typeOf hTs ?_)
  rw [if_pos (by decide)]
  refine wpAny_bind (applied_rev hs ps ?_)
  have hno : ¬ (((((items.size : Int) - 1) == 0) && ((-1 : Int) == 1) && (items.size == items.size)) = true) := by
    intro q
    rw [Bool.and_eq_true, Bool.and_eq_true] at q
    exact absurd q.1.2 (by decide)
  show wpAny _ _ (if ((((items.size : Int) - 1) == 0) && ((-1 : Int) == 1) && (items.size == items.size)) = true then _ else _) _ _ s
  rw [if_neg hno, pick_rev]
  first
    | exact wpAny_bind (m := Builtin.Tuple.tupleExact _) (wpAny_newObj_type (wpAny_pure ⟨_, rfl, wpAny_pure h⟩) htake)
    | exact wpAny_bind (m := Builtin.Tuple.tupleExact _) (wpAny_newObj_type (wpAny_bind (wpAny_pure (wpAny_pure ⟨_, rfl, wpAny_pure h⟩))) htake)
    | exact wpAny_bind (wpAny_bind (m := Builtin.Tuple.tupleExact _) (wpAny_newObj_type (wpAny_pure (wpAny_pure ⟨_, rfl, wpAny_pure h⟩)) htake))
    | exact wpAny_bind (wpAny_bind (m := Builtin.Tuple.tupleExact _) (wpAny_newObj_type (wpAny_pure ⟨_, rfl, wpAny_pure h⟩) htake))
end
def tRevT (K : PySem.W.Frag) (te : TE) : TE := fun σ H Q => te σ H fun x H1 => ∃ a xs, x = .ref a ∧ SqT K H1 a xs ∧ ∀ p, H1 p = none → Q (.ref p) (upd H1 p (.tup xs.reverse))
theorem pe_revT {X : Cx} {e : Expr} {te : TE} {k : Nat} {p1 p2 p3 pos : Pos} (he : PE X e te) : PE X (.Subscript e (.Slice none none (some (.UnaryOp .USub (.Constant (.int 1) k p1) p2)) p3) pos) (tRevT X.K te) := by
  refine ⟨fun pins s σ H Q I h => ?_⟩
  refine Subscript_ (thn (he.run pins s σ H _ I h) fun v s1 ⟨x, H1, I1, r1, q1⟩ => ?_)
  obtain ⟨a, xs, ex, hx, q⟩ := q1
  subst ex
  cases r1
  have hst : PO X (some (.UnaryOp .USub (.Constant (.int 1) k p1) p2)) (tPart (tUn (rU fun i => .int (-i)) (tC (.int 1)))) := po_some (pe_un un_neg pe_int)
  refine wpAny_Slice (thn (po_none.run pins s1 σ H1 (fun o H2 => o = none ∧ H2 = H1) I1 ⟨rfl, rfl⟩) fun vl s2 ⟨l, H2, I2, pl, el, e2⟩ => ?_)
  subst el e2
  cases pl
  refine thn (po_none.run pins s2 σ H2 (fun o H3 => o = none ∧ H3 = H2) I2 ⟨rfl, rfl⟩) fun vu s3 ⟨u, H3, I3, pu, eu, e3⟩ => ?_
  subst eu e3
  cases pu
  refine thn (hst.run pins s3 σ H3 (fun o H4 => o = some (-1) ∧ H4 = H3) I3 ⟨1, rfl, -1, rfl, rfl, rfl⟩) fun vs s4 ⟨o, H4, I4, ps, eo, e4⟩ => ?_
  subst eo e4
  have I5 : Inv X pins σ H4 { s4 with heap := s4.heap.push { cls := .type "slice", data := .fields #[.none, .none, vs] } } := I4.kept (t' := s4.toks) fun b ob q => Heap.get?_push_of_some _ q
  obtain ⟨its, r, ht, hz⟩ := I5.tuple hx
  have hlen := r.length
  show wpAny (model X.prog X.w) X.A (subscriptTail e (.Slice none none (some (.UnaryOp .USub (.Constant (.int 1) k p1) p2)) p3) (.ref a) (.ref s4.heap.objs.size)) (EP X pins σ Q) X.xe { s4 with heap := s4.heap.push { cls := .type "slice", data := .fields #[.none, .none, vs] } }
  refine tail_any (ops := [.ref a, .ref s4.heap.objs.size]) ht.typeIs PyProof.Rows.slot_tuple_getitem.lookup ?_ (by with_unfolding_all rfl)
  refine getItem_tuple_rev ht (Heap.IsSliceOf.new _ .none .none vs) ps ?_ (by rw [List.size_toArray]; omega)
  refine ⟨.ref _, _, I5.laid (t' := s4.toks) (o := .tup xs.reverse) (fun b ob q => Heap.get?_push_of_some _ q) (Nat.le_refl _) ?_, rfl, q _ (I5.hok.fresh (Nat.le_refl _))⟩
  exact ⟨by rw [List.length_reverse]; exact hz, _, r.reverse, IsTup.new _ _⟩
section
variable {gb : Bool} {X : Cx} {G : Cl} {W : WX} {k : Nat} {pos : Pos} {a b c e : Expr} {f g h : EM} {am : Addr} {e0 : En} {H F : Hp} {rho : List Slot} {mu mu' m1 : Mu} {σ : L2.St}
def revT : D → Option Vl
  | .tup ds => some (.fz (.tup ds.reverse))
  | _ => none
theorem q_revT {k0 : Nat} {p1 p2 p3 : Pos} (fx : Fx0 X G W) (ha : PE X a (rd G W f)) : PE X (.Subscript a (.Slice none none (some (.UnaryOp .USub (.Constant (.int 1) k0 p1) p2)) p3) pos) (rd G W (eUn revT f)) := by
  refine PE.to (pe_revT ha) fun σ H Q ⟨am, e0, rho, mu, F, s, o, mu', e, kk⟩ => ?_
  refine rd_then s e (Ko.x kk) fun vl m1 v H1 F1 e1 q s1 rv => ?_
  have k1 := Ko.pre s.sub s.mr q kk
  obtain ⟨z, hz, rfl, rfl⟩ := of_some e1
  cases hv : vl.d with
  | tup ds =>
    rw [hv] at hz rv
    cases hz
    cases rv with
    | tup h1 r1 =>
      rw [fx.hK]
      exact ⟨_, _, rfl, Evl.ex_t s1.sub h1, fun p n => Kd.tup s1.sub s1.mr r1.reverse n k1⟩
  | _ => rw [hv] at hz; cases hz
def revM : D → Option Vl
  | .lst ds => some (.fr ds.reverse)
  | .tup ds => some (.fz (.tup ds.reverse))
  | _ => none
theorem rev_or {f : EM} {rho : List Slot} {mu : Mu} {r : Out Vl × Mu} (h : eUn revM f rho mu = some r) : eUn revL f rho mu = some r ∨ eUn revT f rho mu = some r := by
  unfold eUn M.bind at h ⊢
  cases e : f rho mu with
  | none => rw [e] at h; cases h
  | some o =>
    obtain ⟨o, m⟩ := o
    rw [e] at h
    cases o with
    | ex c ds => exact .inl h
    | ok v =>
      dsimp only at h ⊢
      cases hv : v.d with
      | lst ds => rw [hv] at h; exact .inl h
      | tup ds => rw [hv] at h; exact .inr h
      | _ => rw [hv] at h; cases h
theorem q_rev {k0 : Nat} {p1 p2 p3 : Pos} (fx : Fx0 X G W) (ha : PE X a (rd G W f)) : PE X (.Subscript a (.Slice none none (some (.UnaryOp .USub (.Constant (.int 1) k0 p1) p2)) p3) pos) (rd G W (eUn revM f)) := by
  have h1 := q_revL (pos := pos) (k0 := k0) (p1 := p1) (p2 := p2) (p3 := p3) fx ha
  have h2 := q_revT (pos := pos) (k0 := k0) (p1 := p1) (p2 := p2) (p3 := p3) fx ha
  refine ⟨fun pins s σ H Q I ⟨am, e0, rho, mu, F, sa, r, mu', e, kk⟩ => ?_⟩
  rcases rev_or e with e | e
  · exact h1.run pins s σ H Q I ⟨am, e0, rho, mu, F, sa, r, mu', e, kk⟩
  · exact h2.run pins s σ H Q I ⟨am, e0, rho, mu, F, sa, r, mu', e, kk⟩
end
end Mi
end
section
set_option Elab.async false
set_option linter.all false
set_option maxRecDepth 100000
set_option maxHeartbeats 4000000
namespace Mi
open PySem PySem.Spec PyProof.Rows L2 HT
open Evl (Ex)
/-! ### t * 1, t * 0 -/
theorem tuple_mul1 (l : Addr) (items : Array Value) (n : Nat) (dd : Option Addr) (sl : Array (Option Value)) (x : Int) (u : Tok) (c0 : (decide (x < -(2 ^ 63)) || decide (x ≥ 2 ^ 63)) = false) (c1 : (items.isEmpty || x == 1) = true) :
    Meets (Builtin.«tuple.__mul__» ⟨[.ref l, .int x u], []⟩) (fun _ R s => s.heap.get? l = some { cls := .type "tuple", dict := dd, data := .seq items n, slots := sl } ∧ R (.ok (.ret (Value.ref l))) s) :=
  .of_wp fun prog w A R s h => by
    obtain ⟨hp, g, d, tk, os⟩ := s
    obtain ⟨hl, h⟩ := h
    have f1 := AutoSeq1.idx_int
    wp_walk using wpAny_loadPart' hl
    repeat (first
      | (refine wpAny_ite_false (decide_eq_false (by rw [c0]; exact Bool.false_ne_true)) ?_; wp_walk using wpAny_loadPart' hl)
      | (refine wpAny_ite_true (decide_eq_true c1) ?_; wp_walk using wpAny_loadPart' hl))
    exact ⟨_, rfl, h⟩
theorem tuple_mul0 (l : Addr) (items : Array Value) (n : Nat) (dd : Option Addr) (sl : Array (Option Value)) (x : Int) (u : Tok) (c0 : (decide (x < -(2 ^ 63)) || decide (x ≥ 2 ^ 63)) = false) (c1 : (items.isEmpty || x == 1) = false) (c2 : (decide (x ≤ 0) || items.isEmpty) = true) :
    Meets (Builtin.«tuple.__mul__» ⟨[.ref l, .int x u], []⟩) (fun _ R s => s.heap.get? l = some { cls := .type "tuple", dict := dd, data := .seq items n, slots := sl } ∧
      R (.ok (.ret (Value.ref s.heap.objs.size))) { s with heap := s.heap.push { cls := Value.type "tuple", data := Data.seq #[] }, toks := s.toks }) :=
  .of_wp fun prog w A R s h => by
    obtain ⟨hp, g, d, tk, os⟩ := s
    obtain ⟨hl, h⟩ := h
    have f1 := AutoSeq1.idx_int
    wp_walk using wpAny_loadPart' hl
    repeat (first
      | (refine wpAny_ite_false (decide_eq_false (by rw [c0]; exact Bool.false_ne_true)) ?_; wp_walk using wpAny_loadPart' hl)
      | (refine wpAny_ite_false (decide_eq_false (by rw [c1]; exact Bool.false_ne_true)) ?_; wp_walk using wpAny_loadPart' hl)
      | (refine wpAny_ite_true (decide_eq_true c2) ?_; wp_walk using wpAny_loadPart' hl))
    exact ⟨_, rfl, h⟩
def rRep1 (K : PySem.W.Frag) : R2 := fun x y H Q => ∃ l k xs, x = .ref l ∧ y = .int k ∧ SqT K H l xs ∧ xs ≠ [] ∧ k = 1 ∧ Q (.ref l) H
def rRep0 (K : PySem.W.Frag) : R2 := fun x y H Q => ∃ l k xs, x = .ref l ∧ y = .int k ∧ SqT K H l xs ∧ xs ≠ [] ∧ k ≤ 0 ∧ -1000 ≤ k ∧ ∀ p, H p = none → Q (.ref p) (upd H p (.tup []))
section
variable {X : Cx}
theorem op_rep1 : OpR X (binaryOp .Mult) (rRep1 X.K) := by
  intro pins s σ H x y v u Q I rx ry h
  obtain ⟨l, k, xs, rfl, rfl, hT, hne, rfl, q⟩ := h
  cases rx
  obtain ⟨t, rfl⟩ := ry
  obtain ⟨its, r, ⟨⟨cls, dd, data, sl⟩, ho, hc, n, hd⟩, hs⟩ := I.tuple hT
  simp only at hc hd
  subst hc hd
  have c1 : (its.toArray.isEmpty || (1 : Int) == 1) = true := by rw [Bool.or_eq_true]; exact .inr (by decide)
  refine wpAny_binaryOp_repeat_ref (T := "tuple") (U := "int") (by decide) ⟨_, ho, rfl⟩ (fun s' => typeIs_int s' 1 t) noFill_tuple_mul F.fills_int_mul F.slot_int_rmul repeat_tuple F.slot_int_index.lookup
    (call_meets F.slot_int_rmul (typeIs_int s 1 t) F.entry_int_rmul (F.args_int_rmul_2 _ _) (int_rmul_tuple 1 t l its.toArray n dd sl)
      ⟨ho, rfl, ⟨_, ho, rfl⟩, call_meets F.slot_tuple_mul ⟨_, ho, rfl⟩ F.entry_tuple_mul (F.args_tuple_mul_2 _ _) (tuple_mul1 l its.toArray n dd sl 1 t (by decide) c1) ⟨ho, ?_⟩⟩)
  exact ⟨.ref l, H, I, rfl, q⟩
theorem op_rep0 : OpR X (binaryOp .Mult) (rRep0 X.K) := by
  intro pins s σ H x y v u Q I rx ry h
  obtain ⟨l, k, xs, rfl, rfl, hT, hne, h1, h2, q⟩ := h
  cases rx
  obtain ⟨t, rfl⟩ := ry
  obtain ⟨its, r, ⟨⟨cls, dd, data, sl⟩, ho, hc, n, hd⟩, hs⟩ := I.tuple hT
  simp only at hc hd
  subst hc hd
  have hle : its.length = xs.length := r.length.symm
  have hn : its ≠ [] := fun e => hne (by
    rw [e] at hle
    exact List.eq_nil_of_length_eq_zero hle.symm)
  have hi : its.toArray.isEmpty = false := by
    cases its with
    | nil => exact absurd rfl hn
    | cons a b => rfl
  have c0 : (decide (k < -(2 ^ 63)) || decide (k ≥ 2 ^ 63)) = false := by
    rw [decide_eq_false (by omega), decide_eq_false (by omega)] <;> rfl
  have c1 : (its.toArray.isEmpty || k == 1) = false := by
    rw [hi, Bool.false_or]
    exact beq_eq_false_iff_ne.mpr (by omega)
  have c2 : (decide (k ≤ 0) || its.toArray.isEmpty) = true := by
    rw [decide_eq_true h1]
    rfl
  refine wpAny_binaryOp_repeat_ref (T := "tuple") (U := "int") (by decide) ⟨_, ho, rfl⟩ (fun s' => typeIs_int s' k t) noFill_tuple_mul F.fills_int_mul F.slot_int_rmul repeat_tuple F.slot_int_index.lookup
    (call_meets F.slot_int_rmul (typeIs_int s k t) F.entry_int_rmul (F.args_int_rmul_2 _ _) (int_rmul_tuple k t l its.toArray n dd sl)
      ⟨ho, rfl, ⟨_, ho, rfl⟩, call_meets F.slot_tuple_mul ⟨_, ho, rfl⟩ F.entry_tuple_mul (F.args_tuple_mul_2 _ _) (tuple_mul0 l its.toArray n dd sl k t c0 c1 c2) ⟨ho, ?_⟩⟩)
  refine ⟨.ref s.heap.objs.size, _, I.laid (t' := s.toks) (o := .tup []) (fun b ob q => Heap.get?_push_of_some _ q) (Nat.le_refl _) ?_, rfl, q _ (I.hok.fresh (Nat.le_refl _))⟩
  exact ⟨Nat.zero_le _, [], .nil, IsTup.new _ _⟩
end
section
variable {gb : Bool} {X : Cx} {G : Cl} {W : WX} {k : Nat} {pos : Pos} {a b c e : Expr} {f g h : EM} {am : Addr} {e0 : En} {H F : Hp} {rho : List Slot} {mu mu' m1 : Mu} {σ : L2.St}
/-- a tuple so many times, also once and never -/
def rep1D : D → D → Option Vl
  | .tup a, .int k => if a ≠ [] ∧ k = 1 then some (.fz (.tup a)) else none
  | _, _ => none
def rep0D : D → D → Option Vl
  | .tup a, .int k => if a ≠ [] ∧ k ≤ 0 ∧ -1000 ≤ k then some (.fz (.tup [])) else none
  | _, _ => none
theorem rp_ne {F : Hp} {am : Addr} {xs : List V} {ds : List D} (r : RpAll G F am xs ds) (h : ds ≠ []) : xs ≠ [] := fun e => h (by
  subst e
  cases r
  rfl)
theorem ok_rep1 : R2Ok G (rRep1 G.K) rep1D := by
  intro am mu H F x y dx dy vl Q s mr tt rx ry h k
  cases rx with
  | tup h1 r1 =>
    cases ry with
    | int j =>
      obtain ⟨⟨c1, c2⟩, rfl⟩ := ite_some h
      exact ⟨_, _, _, rfl, rfl, Evl.ex_t s h1, rp_ne r1 c1, c2, Kd.fz s mr (.tup h1 r1) k⟩
    | _ => cases h
  | _ => cases ry <;> cases h
theorem ok_rep0 : R2Ok G (rRep0 G.K) rep0D := by
  intro am mu H F x y dx dy vl Q s mr tt rx ry h k
  cases rx with
  | tup h1 r1 =>
    cases ry with
    | int j =>
      obtain ⟨⟨c1, c2, c3⟩, rfl⟩ := ite_some h
      exact ⟨_, _, _, rfl, rfl, Evl.ex_t s h1, rp_ne r1 c1, c2, c3, fun p n => Kd.tup s mr .nil n k⟩
    | _ => cases h
  | _ => cases ry <;> cases h
def mulT : D → D → Option Vl := orM repT (orM rep1D rep0D)
theorem mulT_ok {a : List D} {k : Int} (h1 : a ≠ []) (h2 : a.length ≤ 1000) (h3 : -1000 ≤ k) (h4 : k ≤ 1000) : mulT (.tup a) (.int k) = some (.fz (.tup (List.replicate k.toNat a).flatten)) := by
  unfold mulT Mi.orM repT rep1D rep0D
  by_cases c1 : 2 ≤ k
  · simp [h1, h2, h4, c1]
  · by_cases c2 : k = 1
    · subst c2
      simp [h1]
    · have c3 : k ≤ 0 := by omega
      have c4 : k.toNat = 0 := by omega
      simp [h1, c1, c2, c3, h3, c4]
theorem x_mulT (fx : Fx0 X G W) (ha : PE X a (rd G W f)) (hb : PE X b (rd G W g)) : PE X (.BinOp a .Mult b pos) (rd G W (eBin mulT f g)) :=
  d_bin (op_repT.or (op_rep1.or op_rep0)) (by rw [fx.hK]; exact ok_or ok_repT (ok_or ok_rep1 ok_rep0)) ha hb
end
end Mi
end
section
set_option Elab.async false
set_option linter.all false
set_option maxRecDepth 100000
set_option maxHeartbeats 4000000
namespace Mi
open PySem PySem.Spec PyProof.Rows L2
open Evl (Ex)
/-! ### enumerate(v, start = k) -/
section
variable {M : Model} {A : Around} {E : Value → Shared → Prop} {s : Shared} {env : Env}
theorem callWith_tyK {pos : Pos} {T : String} {e : Expr} {rest : List Expr} {kws : List Keyword} {Q : Value → Shared → Prop}
    (h : wpAny M A (spliced (backTo pos (starEach (e :: rest) env))) (fun vs s₁ => wpAny M A (evalAll ((backToKw pos (keywordEach kws env)).map (·.2)))
      (fun kvs s₂ => wpAny M A (call (.type T) vs (((backToKw pos (keywordEach kws env)).filterMap (·.1)).zip kvs)) Q E s₂) E s₁) E s)
    (he : backTo pos (starEach (e :: rest) env) = (false, eval e env) :: backTo pos (starEach rest env))
    (hplain : (backTo pos (starEach (e :: rest) env)).any (·.1) = false)
    (hall : (backToKw pos (keywordEach kws env)).all (·.1.isSome) = true)
    (hkw : (backToKw pos (keywordEach kws env)).any (·.1.isNone) = false) :
    wpAny M A (callWith pos (.type T) [] (backTo pos (starEach (e :: rest) env)) (backToKw pos (keywordEach kws env))) Q E s := by
  have h2 : wpAny M A (evalArgs (.type T) true (backTo pos (starEach (e :: rest) env)) (backToKw pos (keywordEach kws env))) (fun a s₁ => wpAny M A (call (.type T) ([] ++ a.pos) a.kw) Q E s₁) E s := by
    rw [he] at h ⊢
    exact evalArgs_kwB hall h
  unfold callWith
  refine wpAny_bind (wpAny_holding (wpAny_mono h2 (fun a s₁ h₁ => wpAny_bind (wpAny_standAt ?_)) fun _ _ x => x))
  simp only [hplain, hkw, Bool.or_false]
  refine wpAny_bind (wpAny_pure ?_)
  exact wpAny_bind (wpAny_mono h₁ (fun r s₂ hr => wpAny_bind (wpAny_holding (wpAny_point (wpAny_pure hr)))) fun _ _ x => x)
end
def iEnumK (K : PySem.W.Frag) (ta tk : TA) : TI := fun σ H R => ta σ H fun vs H0 => tk σ H0 fun zs H1 => ∃ (a : Addr) (xs : List V) (k : Int), vs = [.ref a] ∧ zs = [.int k] ∧ -1000 ≤ k ∧ k ≤ 1000 ∧ ((SqL K H1 a xs ∧ R (IteS (fun H xs => SqL K H a xs) k) H1) ∨ (SqT K H1 a xs ∧ R (IteS (fun H xs => SqT K H a xs) k) H1))
theorem pi_enumK {X : Cx} {e : Expr} {ta tk : TA} {kws : List Keyword} {p pos tpos : Pos} {elts : List Expr} {kk : Nat} (hg : Gl X "enumerate") (hm : X.mg "enumerate" = none) (ha : PA X [e] ta) (hk : PK X kws tk)
    (he : backTo pos (starEach [e] X.env) = (false, eval e X.env) :: backTo pos (starEach [] X.env)) (hpl : (backTo pos (starEach [e] X.env)).any (·.1) = false)
    (hall : (backToKw pos (keywordEach kws X.env)).all (·.1.isSome) = true) (hnone : (backToKw pos (keywordEach kws X.env)).any (·.1.isNone) = false) (hks : (backToKw pos (keywordEach kws X.env)).filterMap (·.1) = [Str.ofString "start"]) :
    PI X (.Tuple elts kk tpos) (.Call (.Name "enumerate" p) [e] kws pos) (iEnumK X.K ta tk) := by
  refine ⟨fun pins s σ H R I z => ?_⟩
  refine wpAny_Call_Name_kw (ld_blt I hg hm boot_enumerate ?_)
  refine callWith_tyK (thn (ha.run pos pins s σ H _ I z) fun us s0 ⟨vs, H0, I0, r0, q0⟩ => thn (hk.run pos pins s0 σ H0 _ I0 q0) fun ws s1 ⟨zs, H1, I1, r1, q1⟩ => ?_) he hpl hall hnone
  rw [hks]
  obtain ⟨a, xs, k, rfl, rfl, k0, k1, q1⟩ := q1
  cases r0 with
  | cons ra rr =>
    cases rr
    cases ra
    cases r1 with
    | cons rk rr =>
      cases rr
      obtain ⟨t, rfl⟩ := rk
      show wpAny (model X.prog X.w) X.A (call (.type "enumerate") [.ref a] [(Str.ofString "start", .int k t)]) _ _ s1
      have fresh2 : ∀ b ∈ [s1.heap.objs.size + 1, s1.heap.objs.size], FpOk X pins H1 b := fun b hb => by
        have le : s1.heap.objs.size ≤ b := by
          rcases List.mem_cons.mp hb with y | y
          · exact y ▸ Nat.le_add_right _ _
          · exact List.mem_singleton.mp y ▸ Nat.le_refl _
        exact I1.fpOk le (I1.hok.fresh le)
      rcases q1 with ⟨hq, q⟩ | ⟨hq, q⟩
      · obtain ⟨its, rv, p', _⟩ := I1.list hq
        have la : a < s1.heap.objs.size := p'.lt
        refine enum_begins_start (begins_list a its.toArray) p'.isList (by omega) (by omega) fun h' he ho hsz hk => ?_
        refine wpAny_pyIter_enum he ?_
        refine ⟨s1.heap.objs.size + 1, _, _, _, H1, rfl, I1.kept (t' := s1.toks) hk, turn_enumS (k0 := k) (inn_list (Nat.ne_of_lt la)) (Nat.succ_ne_self _) (Nat.ne_of_gt (Nat.lt_succ_of_lt la)), ⟨⟨.none, ?_⟩, ⟨_, ho, rfl, rfl⟩⟩, fresh2, q⟩
        rw [show k + ((0 : Nat) : Int) = k by omega]
        exact he
      · obtain ⟨its, rv, p', _⟩ := I1.tuple hq
        have la : a < s1.heap.objs.size := let ⟨_, y, _⟩ := id p'; Heap.lt_size y
        refine enum_begins_start (begins_tuple a its.toArray) p' (by omega) (by omega) fun h' he ho hsz hk => ?_
        refine wpAny_pyIter_enum he ?_
        refine ⟨s1.heap.objs.size + 1, _, _, _, H1, rfl, I1.kept (t' := s1.toks) hk, turn_enumS (k0 := k) (inn_tup (Nat.ne_of_lt la)) (Nat.succ_ne_self _) (Nat.ne_of_gt (Nat.lt_succ_of_lt la)), ⟨⟨.none, ?_⟩, ⟨_, ho, rfl, rfl⟩⟩, fresh2, q⟩
        rw [show k + ((0 : Nat) : Int) = k by omega]
        exact he
def cntVK (k : Int) (n : Nat) : List V := (List.range n).map fun i : Nat => V.int (k + (i : Int))
def cntDK (k : Int) (n : Nat) : List D := (List.range n).map fun i : Nat => D.int (k + (i : Int))
section
variable {gb : Bool} {X : Cx} {G : Cl} {W : WX} {k : Nat} {pos : Pos} {a b c e : Expr} {f g h : EM} {x : Str} {ag bg : AM} {es : List Expr} {tf : BM} {st : Stmt} {sf : SM} {am : Addr} {e0 : En} {H F H' F' H1 F1 : Hp} {rho : List Slot} {mu mu' m1 : Mu} {σ : L2.St}
theorem cntK_rp (j : Int) (n : Nat) : RpAll G F am (cntVK j n) (cntDK j n) := by
  unfold cntVK cntDK
  generalize List.range n = l
  induction l with
  | nil => exact .nil
  | cons i l ih => exact .cons (.int _) ih
theorem cntK_len (j : Int) (n : Nat) : (cntVK j n).length = n := by
  unfold cntVK
  rw [List.length_map, List.length_range]
theorem cntK_get {j : Int} {n i : Nat} (h : i < n) : (cntVK j n)[i]? = some (.int (j + (i : Int))) := by
  unfold cntVK
  rw [List.getElem?_map, List.getElem?_range h]
  rfl
theorem enK_it {S : Hp → List V → Prop} {ys : List V} {j : Int} (hS : ∀ H', Ex F1 H' → S H' ys) : ZipIt (IteS S j) F1 (cntVK j ys.length) ys where
  go := fun i H' x y z e1 e2 => ⟨ys, y, hS H' z, e2⟩
  yl := fun i H' v H2 z h => by
    obtain ⟨T, y, h1, h2, h3, h4⟩ := h
    have hy := h4 ys (hS H' z)
    exact ⟨T, .int (j + (i : Int)), y, h1, h2, h3, cntK_get (List.getElem?_eq_some_iff.mp hy).1, hy⟩
  st := fun i H' z h => ⟨ys, hS H' z, by rw [cntK_len] at h; omega⟩
def enumAK : List D → List D → Option (List D)
  | [x], [.int j] => if -1000 ≤ j ∧ j ≤ 1000 then (match anyD x with
    | some ds => some (zipD (cntDK j ds.length) ds)
    | none => none) else none
  | _, _ => none
def eLcEK (fi gi : AM) (put : D → List Slot → Option (List Slot)) (vs : List Nat) (t : BM) (f : EM) : EM := fun rho => M.bind (fi rho) fun v => M.bind (gi rho) fun u => fun mu => match enumAK v u with
  | some zs => (match lcL put t f (wipeR rho vs) zs [] mu with
    | some (out, mu') => some (.ok (.fr out), mu')
    | none => none)
  | none => none
theorem lcEK_to {gt : TG} {put : D → List Slot → Option (List Slot)} {vs : List Nat} (hK : X.K = G.K) (hg : TgLc G gt put vs) {Q : VK} (q : rd G W (eLcEK ag bg put vs tf f) σ H Q) : tLc (iEnumK X.K (rdA G W ag) (rdA G W bg)) gt (rdT G WN tf) (rd G WN f) vs σ H Q := by
  obtain ⟨am, e0, rho, mu, F, s, o, mu', e, kk⟩ := q
  refine rdA_then s e kk.x fun ds m1 xs0 H1 F1 e1 q s1 rv => ?_
  refine rdA_then s1 e1 (Ko.x (Ko.pre s.sub s.mr q kk)) fun us m2 ys0 H2 F2 e2 q2 s2 ru => ?_
  cases hz : enumAK ds us with
  | none => rw [hz] at e2; cases e2
  | some zs =>
    rw [hz] at e2
    obtain ⟨out, rfl, e3⟩ := lc_out e2
    have rv2 := rv.mono q2.fF
    have k1 := Kd.pre s1.sub s1.mr q2 (Kd.pre s.sub s.mr q (show Kd G am mu H F mu' Q (.fr out) from kk))
    unfold enumAK at hz
    split at hz
    · rename_i x j
      obtain ⟨hj, hz⟩ : (-1000 ≤ j ∧ j ≤ 1000) ∧ (match anyD x with
        | some ds => some (zipD (cntDK j ds.length) ds)
        | none => none) = some zs := by
        by_cases c : -1000 ≤ j ∧ j ≤ 1000
        · rw [if_pos c] at hz
          exact ⟨c, hz⟩
        · rw [if_neg c] at hz
          cases hz
      cases rv2 with
      | cons r1 rr =>
        cases rr
        cases ru with
        | cons r2 rr =>
          cases rr
          cases r2
          cases ha : anyD x with
          | none => rw [ha] at hz; cases hz
          | some dl =>
            rw [ha] at hz
            cases hz
            rw [hK]
            rcases any_cases ha with h1 | ⟨_, h1⟩
            · obtain ⟨p, xs, rfl, hq, rx⟩ := seqD_at r1 h1
              rw [← rx.length] at e3
              exact ⟨p, xs, j, rfl, rfl, hj.1, hj.2, .inl ⟨Evl.ex_l s2.sub hq, fun Dl nD => lcz_go hg (enK_it fun H' z => Evl.ex_l z hq) (cntK_rp _ _) rx s2 nD e3 k1⟩⟩
            · obtain ⟨p, xs, rfl, hq, rx⟩ := tupD_at r1 h1
              rw [← rx.length] at e3
              exact ⟨p, xs, j, rfl, rfl, hj.1, hj.2, .inr ⟨Evl.ex_t s2.sub hq, fun Dl nD => lcz_go hg (enK_it fun H' z => Evl.ex_t z hq) (cntK_rp _ _) rx s2 nD e3 k1⟩⟩
    · cases hz
section
variable {elt : Expr} {ifs elts : List Expr} {scope : Scope} {own : List (Str × Nat)} {gt : TG} {put : D → List Slot → Option (List Slot)} {y : Str} {py spos tpos : Pos} {i kz : Nat} {p p2 : Pos} {kws : List Keyword}
theorem q_lcEK (own : List (Str × Nat)) (fx : Fx gb X G W k) (hN : X.N.Nodup) (hgl : Gl X "enumerate") (hm : X.mg "enumerate" = none) (he' : backTo p2 (starEach [a] X.env) = (false, eval a X.env) :: backTo p2 (starEach [] X.env)) (hpl : (backTo p2 (starEach [a] X.env)).any (·.1) = false)
    (hall : (backToKw p2 (keywordEach kws X.env)).all (·.1.isSome) = true) (hnone : (backToKw p2 (keywordEach kws X.env)).any (·.1.isNone) = false) (hks : (backToKw p2 (keywordEach kws X.env)).filterMap (·.1) = [Str.ofString "start"])
    (hs : ∀ x, foldedSetIterable (.Call (.Name "enumerate" p) [a] kws p2) X.env x = pure x) (ok : blkC X.N X.env.scope scope own = true)
    (ha : PA X [a] (rdA G W ag)) (hk : PK X kws (rdA G W bg)) (hgg : Bk gb X G k scope fun Y => PG Y (.Tuple elts kz tpos) gt) (hg : TgLc G gt put (own.map (·.2))) (ht : Bk gb X G k scope fun Y => PTs Y ifs (rdT G WN tf)) (he : Bk gb X G k scope fun Y => PE Y elt (rd G WN f)) :
    PE X (.ListComp elt [⟨.Tuple elts kz tpos, .Call (.Name "enumerate" p) [a] kws p2, ifs, 0⟩] scope pos) (rd G W (eLcEK ag bg put (own.map (·.2)) tf f)) :=
  PE.to (pe_lc fx.calm hN (pi_enumK hgl hm ha hk he' hpl hall hnone hks) (blkOk_by ok) (fun s H C cl fp => hgg s H C cl fp (fx.blk ..)) (fun s H C cl fp => ht s H C cl fp (fx.blk ..)) (fun s H C cl fp => he s H C cl fp (fx.blk ..)) hs) fun _ _ _ q => lcEK_to fx.hK hg q
end
end
end Mi
end
section
set_option Elab.async false
set_option linter.all false
set_option maxRecDepth 100000
set_option maxHeartbeats 4000000
namespace Mi
open PySem PySem.Spec PyProof.Rows L2
open Evl (Ex)

/-! ### own exceptions: made and raised -/
/-- what an own exception class must say; its fields in turned order of storing -/
structure XcOk (G : Cl) (c : Nat) : Prop where
  ox : OexC G.K (G.ca c)
  no : ∀ f ∈ G.fn c, PySem.W.findIn G.K (.ref (G.ca c)) f = some none
def spX (G : Cl) (c : Nat) : Sp := fun vs H Q _ => ∃ (a : Addr) (ws : List V), vs = .ref a :: ws ∧ ws.length = (G.fn c).length ∧ H a = some (exo a (G.ca c) none) ∧
  ∀ dx, H dx = none → dx ≠ a → Q .non (upd (upd H dx (exd dx ((G.fn c).zip ws.reverse))) a (exo a (G.ca c) (some dx)))
structure XMk (P : Program) (w : World) (G : Cl) (mg : Str → Option Value) (base : Heap) (k : Nat) (x : Str) (c n : Nat) : Prop where
  ex : ∃ (f : Addr) (fd : FuncData) (ps : List Str), PySem.W.findIn G.K (.ref (G.ca c)) "__init__" = some (some (.ref f)) ∧ PySem.W.typeIn G.K (.ref f) = some (.type "function") ∧ FnOk P w G.K mg base (L2.CX P w) k f fd ps (spX G c) ∧ mg x = some (.ref (G.ca c)) ∧ Binds G.K fd ps []
  xc : XcOk G c
  ln : (G.fn c).length = n
section
variable {P : Program} {w : World} {G : Cl} {mg : Str → Option Value} {base : Heap} {k : Nat}
theorem xmk1 {c : Nat} {x qual self y f : Str} {st : Stmt} {fI : Addr} {N : List Str} {p1 p2 p3 pos : Pos} (T : XcOk G c) (hfn : G.fn c = [f]) (iC : PySem.W.findIn G.K (.ref (G.ca c)) "__init__" = some (some (.ref fI))) (tI : PySem.W.typeIn G.K (.ref fI) = some (.type "function"))
    (hm : mg x = some (.ref (G.ca c))) (Dm : MetM G c "__init__" qual st fI [self, y]) (S : FnScope N [self, y] (defScope st)) (h0 : N[0]? = some self) (h1 : N[1]? = some y) (v0 : Vis (defScope st) self) (v1 : Vis (defScope st) y)
    (hb : defBody st = [.Assign [.Attribute (.Name self p1) f p2] (.Name y p3) pos]) (d0 : (self == ("__debug__" : Str)) = false) (d1 : (self == ("__classdict__" : Str)) = false) (d2 : (y == ("__debug__" : Str)) = false) (d3 : (y == ("__classdict__" : Str)) = false) : XMk P w G mg base (k + 1) x c 1 where
  xc := T
  ln := by rw [hfn]; rfl
  ex := by
    obtain ⟨fd, F, hB⟩ := Dm.ex
    refine ⟨fI, fd, [self, y], iC, tI, FnC.ok (fnC_by F S (fun vs H Q E h => ?_) fun cdv A outer s H vs Q E q hr h => ?_), hm, hB⟩
    · obtain ⟨a, ws, rfl, hl, _⟩ := h
      rw [hfn] at hl
      show ws.length + 1 = 2
      rw [hl]
      rfl
    · rw [hb]
      refine ⟨_, pss_one (ps_ost (pe_var (i := 0) h0 v0 d0 d1) (pe_var (i := 1) h1 v1 d2 d3)), ?_⟩
      obtain ⟨a, ws, rfl, hl, ha, hq⟩ := h
      rw [hfn] at hl hq
      obtain ⟨y0, rfl⟩ : ∃ y0, ws = [y0] := by
        cases ws with
        | nil => cases hl
        | cons y0 ws =>
          cases ws with
          | nil => exact ⟨y0, rfl⟩
          | cons _ _ => cases hl
      exact ⟨y0, rfl, .ref a, rfl, a, G.ca c, rfl, T.ox, T.no f (by rw [hfn]; exact List.mem_cons_self), .inl ⟨ha, fun dx n ne => hq dx n ne⟩⟩
end
section
variable {gb : Bool} {X : Cx} {G : Cl} {W : WX} {k : Nat} {pos p : Pos} {a b e : Expr} {f g h : EM} {x : Str} {ag : AM} {es : List Expr} {st : Stmt}
/-- raise C(e, ..), C's fields so many -/
def sRaise (c n : Nat) (ag : AM) : SM := sWith ag fun ds rho m => if ds.length = n ∧ n ≤ 1000 then some (.ex c ds.reverse rho, m) else none
theorem del_upd {H : Hp} {a dx : Addr} {o1 o2 o3 o4 : HO} (na : H a = none) (ne : dx ≠ a) : upd (del (upd (upd (upd H a o1) dx o2) a o3) a) dx o4 = upd H dx o4 := by
  funext b
  by_cases hb : b = dx
  · rw [hb, upd_same, upd_same]
  · rw [upd_ne hb, upd_ne hb]
    by_cases ha : b = a
    · rw [ha, del_same, na]
    · rw [del_ne ha, upd_ne ha, upd_ne hb, upd_ne ha]
theorem RpAll.rev {F : Hp} {am : Addr} {xs : List V} {ds : List D} (r : RpAll G F am xs ds) : RpAll G F am xs.reverse ds.reverse := r.reverse
theorem s_raise {j c n : Nat} {pos' : Pos} (fx : Fx gb X G W k) (h : XMk X.prog X.w G X.mg X.base j x c n) (hj : j + 1 ≤ k) (hg : Gl X x) (hd : (x == ("__debug__" : Str)) = false)
    (he : starEach (e :: es) X.env = (false, eval e X.env) :: starEach es X.env) (hpl : (backTo pos (starEach es X.env)).any (·.1) = false) (ha : PA X (e :: es) (rdA G W ag)) : PS X (.Raise (some (.Call (.Name x p) (e :: es) [] pos)) none pos') (rdS G W (sRaise c n ag)) := by
  obtain ⟨fa, fd, ps, iC, tI, F, hm, hb⟩ := h.ex
  have T := h.xc.ox
  have hK := fx.hK
  rw [← hK] at iC tI F hb T
  refine PS.to (ps_raise fx.calm fx.tk (pmk_oex T iC tI F (fx.hr.mono hj) hb .nil passL hg hm ha hd he hpl)) fun Dn σ H ⟨am, e0, rho, mu, F0, s, r, mu', e1, kk⟩ => ?_
  show rdA G W ag σ H _
  unfold sRaise sWith at e1
  cases e2 : ag rho mu with
  | none => rw [e2] at e1; cases e1
  | some z =>
    obtain ⟨o1, m1⟩ := z
    rw [e2] at e1
    cases o1 with
    | ex c' cs =>
      cases e1
      exact ⟨am, e0, rho, mu, F0, s, _, _, e2, kx_of s kk⟩
    | ok ds =>
      obtain ⟨⟨hl, hn⟩, e3⟩ := ite_some e1
      cases e3
      refine ⟨am, e0, rho, mu, F0, s, _, _, e2, fun vs H1 F1 q r1 => ?_⟩
      have s1 := s.post q
      refine ⟨by rw [r1.length]; omega, fun a na => ?_⟩
      rw [List.append_nil]
      refine ⟨a, vs, rfl, by rw [r1.length, hl, h.ln], upd_same, fun dx n ne => ?_⟩
      have n1 : H1 dx = none := by rw [upd_ne ne] at n; exact n
      refine ⟨rfl, dx, _, upd_same, by rw [upd_ne ne, upd_same], n1, ?_⟩
      rw [del_upd na ne]
      have q2 : Post G am mu' H1 F1 mu' (upd H1 dx (.xd ((G.fn c).zip vs.reverse))) F1 := Post.lay s1.sub s1.mr n1
      exact kk dx vs.reverse σ _ F1 q.fF (s1.post q2) upd_same r1.reverse
end
end Mi
end
section
set_option Elab.async false
set_option linter.all false
set_option maxRecDepth 100000
set_option maxHeartbeats 4000000
namespace Mi
open PySem PySem.Spec PyProof.Rows L2
open Evl (Ex)

/-! ### an exception in hand -/
def Cl.wx (G : Cl) (a dd : Addr) (c : Nat) (xs : List V) : Cl := { G with xa := some (a, dd, c, xs) }
mutual
/-- no exception within -/
def noX : D → Bool
  | .lst ds => noXs ds
  | .tup ds => noXs ds
  | .ins _ ds => noXs ds
  | .exc _ _ => false
  | _ => true
def noXs : List D → Bool
  | [] => true
  | d :: ds => noX d && noXs ds
end
section
variable {G : Cl} {F : Hp} {am : Addr} {a dd : Addr} {c : Nat} {xs : List V}
mutual
theorem Rp.up (hx : G.xa = none) : ∀ {v : V} {d : D}, Rp G F am v d → Rp (G.wx a dd c xs) F am v d
  | _, _, .non => .non
  | _, _, .bl b => .bl b
  | _, _, .int i => .int i
  | _, _, .str x => .str x
  | _, _, .lst h r => .lst h (RpAll.up hx r)
  | _, _, .tup h r => .tup h (RpAll.up hx r)
  | _, _, .ins h l r => .ins (G := G.wx a dd c xs) h l (RpAll.up hx r)
  | _, _, .mug => .mug
  | _, _, .scr h => .scr h
  | _, _, .ty n => .ty n
  | _, _, .cls c => .cls (G := G.wx a dd _ xs) c
  | _, _, .exc x l r => absurd (hx.symm.trans x) (by simp)
  | _, _, .emp h => .emp h
theorem RpAll.up (hx : G.xa = none) : ∀ {vs : List V} {ds : List D}, RpAll G F am vs ds → RpAll (G.wx a dd c xs) F am vs ds
  | _, _, .nil => .nil
  | _, _, .cons h r => .cons (Rp.up hx h) (RpAll.up hx r)
end
mutual
theorem Rp.dn : ∀ {v : V} {d : D}, Rp (G.wx a dd c xs) F am v d → noX d = true → Rp G F am v d
  | _, _, .non, _ => .non
  | _, _, .bl b, _ => .bl b
  | _, _, .int i, _ => .int i
  | _, _, .str x, _ => .str x
  | _, _, .lst h r, z => .lst h (RpAll.dn r z)
  | _, _, .tup h r, z => .tup h (RpAll.dn r z)
  | _, _, .ins h l r, z => .ins (G := G) h l (RpAll.dn r z)
  | _, _, .mug, _ => .mug
  | _, _, .scr h, _ => .scr h
  | _, _, .ty n, _ => .ty n
  | _, _, .cls c, _ => .cls (G := G) c
  | _, _, .exc x l r, z => by cases z
  | _, _, .emp h, _ => .emp h
theorem RpAll.dn : ∀ {vs : List V} {ds : List D}, RpAll (G.wx a dd c xs) F am vs ds → noXs ds = true → RpAll G F am vs ds
  | _, _, .nil, _ => .nil
  | _, _, .cons h r, z => by
    have z' : (noX _ && noXs _) = true := z
    rw [Bool.and_eq_true] at z'
    exact .cons (Rp.dn h z'.1) (RpAll.dn r z'.2)
end
def noXm : Mu → Bool
  | none => true
  | some ds => noXs ds
def noXw : Ow → Bool
  | .lst ds => noXs ds
  | .ins _ ds => noXs ds
def noXr : Slot → Bool
  | .no => true
  | .va d => noX d
  | .ow w => noXw w
theorem MR.up {H : Hp} {mu : Mu} (hx : G.xa = none) (m : MR G H F am mu) : MR (G.wx a dd c xs) H F am mu := by
  cases mu with
  | none => trivial
  | some ds =>
    obtain ⟨h1, ys, h2, h3⟩ := m
    exact ⟨h1, ys, h2, h3.up hx⟩
theorem MR.dn {H : Hp} {mu : Mu} (m : MR (G.wx a dd c xs) H F am mu) (z : noXm mu = true) : MR G H F am mu := by
  cases mu with
  | none => trivial
  | some ds =>
    obtain ⟨h1, ys, h2, h3⟩ := m
    exact ⟨h1, ys, h2, h3.dn z⟩
theorem OwOk.up {o : HO} {w : Ow} (hx : G.xa = none) (m : OwOk G F am o w) : OwOk (G.wx a dd c xs) F am o w := by
  cases w with
  | lst ds =>
    obtain ⟨ys, h1, h2⟩ := m
    exact ⟨ys, h1, h2.up hx⟩
  | ins k ds =>
    obtain ⟨dx, ys, h1, h2, h3⟩ := m
    exact ⟨dx, ys, h1, h2, h3.up hx⟩
theorem OwOk.dn {o : HO} {w : Ow} (m : OwOk (G.wx a dd c xs) F am o w) (z : noXw w = true) : OwOk G F am o w := by
  cases w with
  | lst ds =>
    obtain ⟨ys, h1, h2⟩ := m
    exact ⟨ys, h1, h2.dn z⟩
  | ins k ds =>
    obtain ⟨dx, ys, h1, h2, h3⟩ := m
    exact ⟨dx, ys, h1, h2, h3.dn z⟩
theorem Sta.up {e0 : En} {rho : List Slot} {mu : Mu} {σ : L2.St} {H : Hp} (hx : G.xa = none) (s : Sta G am e0 rho mu σ H F) (hd : H dd = some (.xd ((G.fn c).zip xs))) : Sta (G.wx a dd c xs) am e0 rho mu σ H F where
  sub := s.sub
  len := s.len
  va := fun i d h => let ⟨v, p, q⟩ := s.va i d h; ⟨v, p, q.up hx⟩
  ow := fun i w h => by
    obtain ⟨p, o, h1, h2, h3, h4, h5, h6⟩ := s.ow i w h
    exact ⟨p, o, h1, h2, h3, h4.up hx, h5, h6⟩
  dj := s.dj
  oi := s.oi
  mr := s.mr.up hx
  keep := s.keep
  fF := s.fF
  new := s.new
  mz := s.mz
  tb := ⟨s.tb.1, fun a' dd' c' xs' h => by
    have h' : some (a, dd, c, xs) = some (a', dd', c', xs') := h
    cases h'
    exact hd⟩
theorem Sta.dn {e0 : En} {rho : List Slot} {mu : Mu} {σ : L2.St} {H : Hp} (hx : G.xa = none) (s : Sta (G.wx a dd c xs) am e0 rho mu σ H F) (h1 : rho.all noXr = true) (h2 : noXm mu = true) : Sta G am e0 rho mu σ H F where
  sub := s.sub
  len := s.len
  va := fun i d h => by
    obtain ⟨v, p, q⟩ := s.va i d h
    exact ⟨v, p, q.dn (List.all_eq_true.mp h1 _ (List.mem_of_getElem? h))⟩
  ow := fun i w h => by
    obtain ⟨p, o, g1, g2, g3, g4, g5, g6⟩ := s.ow i w h
    exact ⟨p, o, g1, g2, g3, g4.dn (List.all_eq_true.mp h1 _ (List.mem_of_getElem? h)), g5, g6⟩
  dj := s.dj
  oi := s.oi
  mr := s.mr.dn h2
  keep := s.keep
  fF := s.fF
  new := s.new
  mz := s.mz
  tb := ⟨s.tb.1, fun a' dd' c' xs' h => by rw [hx] at h; cases h⟩
theorem Post.up {mu mu' : Mu} {H H' F' : Hp} (hx : G.xa = none) (q : Post G am mu H F mu' H' F') (hd : H' dd = some (.xd ((G.fn c).zip xs))) : Post (G.wx a dd c xs) am mu H F mu' H' F' where
  keep := q.keep
  fF := q.fF
  sub := q.sub
  new := q.new
  mr := q.mr.up hx
  mm := q.mm
  tb := ⟨q.tb.1, fun _ a' dd' c' xs' h => by
    have h' : some (a, dd, c, xs) = some (a', dd', c', xs') := h
    cases h'
    exact hd⟩
end
/-- back from a suite: from its state to the def's entry -/
theorem Post.dnW {G : Cl} {am : Addr} {a dd : Addr} {c : Nat} {xs : List V} {mu mu' : Mu} {H F H' F' : Hp} (hx : G.xa = none) (q : Post (G.wx a dd c xs) am mu H F mu' H' F') (z : noXm mu' = true) : Post G am mu H F mu' H' F' where
  keep := q.keep
  fF := q.fF
  sub := q.sub
  new := q.new
  mr := q.mr.dn z
  mm := q.mm
  tb := ⟨q.tb.1, fun _ _ _ _ _ h => by rw [hx] at h; cases h⟩

/-! ### in the suite -/
/-- what a suite's place of code knows -/
structure Fs (X : Cx) (G : Cl) (W : WX) : Prop extends Fx0 X G W where
  ha : ∃ (a dd : Addr) (c : Nat) (xs : List V) (oe : Obj), G.xa = some (a, dd, c, xs) ∧ (a, oe) ∈ X.pn ∧ Zc (.ref (G.ca c)) (some dd) oe ∧ ∃ vs, oe.data = .fields vs
instance {X : Cx} {G : Cl} {W : WX} : CoeOut (Fs X G W) (Fx0 X G W) := ⟨Fs.toFx0⟩
/-- what the written part says of own exceptions whose fields are read, which are asked for their class -/
structure XfOk (G : Cl) (c : Nat) : Prop where
  xf : XfC G.K (G.ca c)
  nd : (G.fn c).Nodup
  no : ∀ f ∈ G.fn c, PySem.W.findIn G.K (.ref (G.ca c)) f = some none
  hcl : (PySem.W.clsIn G.K (G.ca c)).isSome = true
  ha : PySem.W.findIn G.K (.ref (G.ca c)) "__class__" = some (some (.builtin "object.__class__"))
  hn : PySem.W.specialIn G.K (.builtin "object.__class__") "__get__" = some (some (.builtin "getset_descriptor.__get__"))
  ht : PySem.W.takesIn G.K (.builtin "object.__class__") = some true
  hm : PySem.W.mroIn G.K (G.ca c) (.type "object") = some true
def xfldD (fi : Nat → Option Nat) : D → Option Vl
  | .exc c ds => match fi c with
    | some j => ds[j]?.map .fz
    | none => none
  | _ => none
section
variable {X : Cx} {G : Cl} {W : WX} {pos p q : Pos} {e e1 e2 : Expr} {f g : EM} {x : Str}
/-- the exception in hand, as it stands -/
theorem hand_at {pins : List (Addr × Obj)} {σ : L2.St} {H : Hp} {s : Shared} {a dd C : Addr} {oe : Obj} {fs : List (Str × V)} (I : Inv X pins σ H s) (hp : (a, oe) ∈ X.pn) (hz : Zc (.ref C) (some dd) oe) (hf : ∃ vs, oe.data = .fields vs) (h : H dd = some (.xd fs)) :
    ∃ (od : Obj) (g : Str → Option Value), PySem.W.InstAt s.heap a oe C (some od) ∧ (∀ n, PySem.W.lookIn n od = some (g n)) ∧ ∀ n, RelO (fs.lookup n) (g n) := by
  have k : ObjOk X.prog X.w H s.heap dd (.xd fs) := I.hok dd (.xd fs) h
  rcases k with ⟨g, ns, rel⟩
  rcases lookIn_ns ns with ⟨od, at_, look⟩
  have stands := (I.pin (a, oe) (List.mem_append.mpr (.inl hp))).1
  refine ⟨od, g, ⟨stands, hz.1, ?_, ?_⟩, look, rel⟩
  · rcases hf with ⟨vs, e⟩
    simp only [PySem.W.notCls, e]
  · rw [hz.2]
    exact at_
/-- the reading of e.n -/
def tXf2 (K : PySem.W.Frag) (G : Cl) (n : Str) (te : TE) : TE := fun σ H Q => te σ H fun x H1 => ∃ (a dd : Addr) (c : Nat) (xs : List V) (v : V), x = .ref a ∧ G.xa = some (a, dd, c, xs) ∧ XfC K (G.ca c) ∧ PySem.W.findIn K (.ref (G.ca c)) n = some none ∧
  H1 dd = some (.xd ((G.fn c).zip xs)) ∧ ((G.fn c).zip xs).lookup n = some v ∧ Q v H1
theorem pe_xf2 {te : TE} {n : Str} (fs : Fs X G W) (he : PE X e te) (hb : attributeBase e n X.env (eval e X.env) = eval e X.env) : PE X (.Attribute e n pos) (tXf2 X.K G n te) := by
  rcases fs.ha with ⟨a0, dd0, c0, xs0, oe, hx0, hp, hz, hf⟩
  constructor
  intro pins s σ H Q I h
  refine attr_of hb (thn (he.run pins s σ H _ I h) ?_)
  rintro u s1 ⟨x, H1, I1, rx, a, dd, c, xs, v, rfl, hx, T, hno, hdd, hv, q⟩
  cases hx0.symm.trans hx
  cases rx
  rcases hand_at I1 hp hz hf hdd with ⟨od, g, J, look, rel⟩
  have rv := rel n
  rw [hv] at rv
  cases hg : g n with
  | none =>
    rw [hg] at rv
    exact rv.elim
  | some w =>
    rw [hg] at rv
    refine HandSPX.exc_get I1.kIn J T.ga T.gg T.exC (PySem.W.findObj_own T.hdC hno rfl ?_) (handed_of rv) ⟨v, H1, I1.tok _, rv, q⟩
    rw [look n, hg]
theorem q_xf {fi : Nat → Option Nat} {n : Str} (fs : Fs X G W) (hf : ∀ c j, fi c = some j → XfOk G c ∧ (G.fn c)[j]? = some n) (hb : attributeBase e n X.env (eval e X.env) = eval e X.env) (he : PE X e (rd G W f)) : PE X (.Attribute e n pos) (rd G W (eUn (xfldD fi) f)) := by
  refine PE.to (pe_xf2 fs he hb) fun σ H Q ⟨am, e0, rho, mu, F, s, o, mu', e, k⟩ => ?_
  refine rd_then s e k.x fun vx m1 x H1 F1 e1 p1 s1 rx => ?_
  obtain ⟨z, hz, rfl, rfl⟩ := of_some e1
  cases hd : vx.d with
  | exc c ds =>
    rw [hd] at hz rx
    unfold xfldD at hz
    dsimp only at hz
    cases hj : fi c with
    | none => rw [hj] at hz; cases hz
    | some j =>
      rw [hj] at hz
      obtain ⟨d, h1, rfl⟩ := map_some hz
      obtain ⟨T, hn⟩ := hf c j hj
      cases rx with
      | exc hx hl r =>
        rename_i a dd xs
        obtain ⟨v, g1, g2⟩ := r.get h1
        have hK := fs.hK
        refine ⟨a, dd, c, xs, v, rfl, hx, by rw [hK]; exact T.xf, by rw [hK]; exact T.no n (List.mem_of_getElem? hn), s1.tb.2 a dd c xs hx, by rw [look_zip T.nd hn]; exact g1, Kd.fz s1.sub s1.mr g2 (Kd.pre s.sub s.mr p1 k)⟩
  | _ => rw [hd] at hz; cases hz
/-- isinstance(e, C), e the exception in hand -/
structure XTab (G : Cl) (tx : Nat → D → Option Bool) : Prop where
  is : ∀ c y b, tx c y = some b → XfOk G c ∧ PySem.W.kitOne G.K (.ref (G.ca c)) (vK G y) = some b
def isxM (tx : Nat → D → Option Bool) (x y : D) : Option Vl := match x with
  | .exc c _ => if clsD y = true then (tx c y).map fun b => .fz (.bl b) else none
  | _ => none
theorem q_isx {tx : Nat → D → Option Bool} {ag : AM} {es : List Expr} (fs : Fs X G W) (T : XTab G tx) (hm : X.mg "isinstance" = none) (hg : Gl X "isinstance") (hst : starEach (e :: es) X.env = (false, eval e X.env) :: starEach es X.env)
    (hpl : (backTo pos (starEach es X.env)).any (·.1) = false) (ha : PA X (e :: es) (rdA G W ag)) : PE X (.Call (.Name "isinstance" q) (e :: es) [] pos) (rd G W (eCall (m2 (isxM tx)) ag)) := by
  obtain ⟨a', dd', c', xs', oe, hxa', hp, hz, vs, hd⟩ := fs.ha
  have hK := fs.hK
  have cr : CallR X (.builtin "isinstance") (fun ws H Q => ∃ (y : V) (cv : Value) (b : Bool), ws = [.ref a', y] ∧ XfOk G c' ∧ H dd' = some (.xd ((G.fn c').zip xs')) ∧ (∀ u, RelV y u → u = cv) ∧ PySem.W.kitOne X.K (.ref (G.ca c')) cv = some b ∧ Q (.bl b) H) := by
    rintro pins s σ H ws us Q I r ⟨y, cv, b, rfl, T, hdd, hcv, hk, q⟩
    match us, r with
    | [_, u], .cons rx (.cons rt .nil) =>
      cases rx
      cases hcv u rt
      rcases hand_at I hp hz ⟨vs, hd⟩ hdd with ⟨od, g, J, _, _⟩
      have f := T.xf
      have f1 := T.hcl
      have f2 := T.ha
      have f3 := T.hn
      have f4 := T.ht
      have f5 := T.hm
      rw [← hK] at f f1 f2 f3 f4 f5
      exact PySem.W.kia_one (PySem.W.kitx_exc f1 f.ga f.gg f.exC f2 f3 f4 f5) I.kIn J hk nofun fun tk => ⟨.bl b, H, I.kept (t' := tk) (fun _ _ z => z), rfl, q⟩
  refine PE.to (pe_callB cr hg hm boot_isi ha (by decide) (by decide) hst hpl) fun σ H Q ⟨am, e0, rho, mu, F, s, o, mu', e, k⟩ => ?_
  refine rdA_then s e k.x fun ds m1 vs H1 F1 e1 p1 s1 rs => ?_
  obtain ⟨z, hz, rfl, rfl⟩ := of_some e1
  cases rs with
  | nil => cases hz
  | cons r1 rs =>
    cases rs with
    | nil => cases hz
    | cons r2 rs =>
      cases rs with
      | cons _ _ => cases hz
      | nil =>
        rename_i v1 d1 v2 d2
        have hz : isxM tx d1 d2 = some z := hz
        unfold isxM at hz
        cases d1 with
        | exc c ds =>
          dsimp only at hz
          by_cases hc : clsD d2 = true
          case neg => rw [if_neg hc] at hz; cases hz
          rw [if_pos hc] at hz
          obtain ⟨b, hb, rfl⟩ := map_some hz
          obtain ⟨g1, g2⟩ := T.is c d2 b hb
          cases r1 with
          | exc hx hl r =>
            rw [hx] at hxa'
            cases hxa'
            exact ⟨v2, vK G d2, b, rfl, g1, s1.tb.2 _ _ _ _ hx, fun u hu => (cls_at r2 hc).eq hu, by rw [hK]; exact g2, Kd.fz s1.sub s1.mr (.bl b) (Kd.pre s.sub s.mr p1 k)⟩
        | _ => cases hz
end
end Mi
end
section
set_option Elab.async false
set_option linter.all false
set_option maxRecDepth 100000
set_option maxHeartbeats 4000000
namespace Mi
open PySem PySem.Spec PyProof.Rows L2
open Evl (Ex)
section
variable {gb : Bool} {X : Cx} {G : Cl} {W : WX} {k : Nat} {pos p q np pos' : Pos} {e e1 e2 : Expr} {f g : EM} {x n : Str} {sb ss : SM} {body suite : List Stmt} {b₀ : Stmt}
/-- try: sb / except .. as slot i: ss; tc tells which classes (with so many fields) are caught -/
def backX (i : Nat) : Option (Res × Mu) → Option (Res × Mu)
  | some (.fl (.rt v) rho, m) => if (noX v.d && noXm m) = true then some (.fl (.rt v) rho, m) else none
  | some (.fl fl rho, m) => if ((rho.set i .no).all noXr && noXm m) = true then some (.fl fl (rho.set i .no), m) else none
  | _ => none
def sTryAs (tc : Nat → Nat → Option Bool) (i : Nat) (sb ss : SM) : SM := fun rho mu => match sb rho mu with
  | some (.ex c ds rho1, m1) => (match tc c ds.length with
    | some true => backX i (ss (rho1.set i (.va (.exc c ds))) m1)
    | some false => some (.ex c ds rho1, m1)
    | none => none)
  | r => r
theorem Fx0.never {A : Around} (hK : X.K = G.K) (hx : X.xe = fun _ _ => False) : Fx0 X G WN := ⟨hK, takes0, by rw [hx]; exact PassesOwn.never⟩
theorem Fx.tr (fx : Fx gb X G W k) {W' : WX} {pn : List (Addr × Obj)} {xe : Value → Shared → Prop} (tk : Takes (X.tr pn xe) W') (po : PassesOwn (model X.prog X.w) X.A X.env xe) : Fx gb (X.tr pn xe) G W' k := ⟨⟨fx.hK, tk, po⟩, fx.gd, fx.hr, fx.calm⟩
theorem Kd.dn {am a dd : Addr} {c : Nat} {xs : List V} {mu mu' : Mu} {H F : Hp} {Q : VK} {v : Vl} (hx : G.xa = none) (h1 : noX v.d = true) (h2 : noXm mu' = true) (k : Kd G am mu H F mu' Q v) : Kd (G.wx a dd c xs) am mu H F mu' Q v := by
  cases v with
  | fz d => exact fun v H' F' q r => k v H' F' (q.dnW hx h2) (r.dn h1)
  | fr ds => exact fun p ys H' F' q n e ef hp r => k p ys H' F' (q.dnW hx h2) n e ef hp (r.dn h1)
theorem back_fl {i : Nat} {r r2 : Res} {m m2 : Mu} (h : backX i (some (r2, m2)) = some (r, m)) : m = m2 ∧ noXm m2 = true ∧ ((∃ v rho, r2 = .fl (.rt v) rho ∧ r = .fl (.rt v) rho ∧ noX v.d = true) ∨ (∃ fl rho, (∀ v, fl ≠ .rt v) ∧ r2 = .fl fl rho ∧ r = .fl fl (rho.set i .no) ∧ (rho.set i .no).all noXr = true)) := by
  unfold backX at h
  split at h
  · rename_i v rho m' e
    cases e
    obtain ⟨c, e⟩ := ite_some h
    rw [Bool.and_eq_true] at c
    cases e
    exact ⟨rfl, c.2, .inl ⟨v, rho, rfl, rfl, c.1⟩⟩
  · rename_i fl rho m' hn e
    cases e
    obtain ⟨c, e⟩ := ite_some h
    rw [Bool.and_eq_true] at c
    cases e
    exact ⟨rfl, c.2, .inr ⟨fl, rho, fun v z => hn v z, rfl, rfl, c.1⟩⟩
  · cases h
theorem s_tryAs {i : Nat} {cv : Value} {tc : Nat → Nat → Option Bool} (fx : Fx gb X G W k) (hx : G.xa = none) (hs : X.stack = X.env :: X.outer) (hf : X.env.frame = some X.env.locals) (hN : X.N.Nodup) (hi : X.N[i]? = some n) (hln : X.env.kindOf n = some .local) (hc : Names X x cv)
    (ht : ∀ c n b, tc c n = some b → PySem.W.exmOne G.K (.ref (G.ca c)) cv = some b ∧ (b = true → (G.fn c).length = n))
    (hb : ∀ (W' : WX) (pn : List (Addr × Obj)) (xe : Value → Shared → Prop), Fx gb (X.tr pn xe) G W' k → PSs (X.tr pn xe) body (rdS G W' sb))
    (hsu : ∀ (a dd : Addr) (c : Nat) (xs : List V) (oe : Obj) (pn : List (Addr × Obj)), Fs (X.suite a ((a, oe) :: pn)) (G.wx a dd c xs) WN → PSs (X.suite a ((a, oe) :: pn)) (b₀ :: suite) (rdS (G.wx a dd c xs) WN ss)) :
    PS X (.Try body [.ExceptHandler (some (.Name x np)) (some n) (b₀ :: suite) pos'] [] [] pos) (rdS G W (sTryAs tc i sb ss)) := by
  have hK := fx.hK
  refine PS.to (ps_try_as (tb := fun W' => rdS G W' sb) (ts := fun a cls d => fun Dn σ H => ∃ dd c xs, d = some dd ∧ cls = .ref (G.ca c) ∧ rdS (G.wx a dd c xs) WN ss Dn σ H) (Wout := W) hs hf hN hi hln hc fx.tk
    (fun W' pn xe tk po => hb W' pn xe (fx.tr tk po)) (fun a oe cls d pn hz hv => ⟨fun pins s σ H D I h => ?_⟩)) fun Dn σ H ⟨am, e0, rho, mu, F, s, r, mu', e, kk⟩ => ?_
  · obtain ⟨dd, c, xs, rfl, rfl, h⟩ := h
    refine (hsu a dd c xs oe pn ⟨⟨hK, takes0, PassesOwn.never⟩, a, dd, c, xs, oe, rfl, List.mem_cons_self, hz, hv⟩).run pins s σ H D I h
  · unfold sTryAs at e
    cases e1 : sb rho mu with
    | none => rw [e1] at e; cases e
    | some z =>
      obtain ⟨r1, m1⟩ := z
      rw [e1] at e
      refine ⟨am, e0, rho, mu, F, s, r1, m1, e1, ?_⟩
      cases r1 with
      | fl fl rho1 =>
        cases e
        cases fl with
        | nx => exact kk
        | bk => exact kk
        | ct => exact kk
        | rt d => exact kk
      | ex c ds rho1 =>
        have e : (match tc c ds.length with
          | some true => backX i (ss (rho1.set i (.va (.exc c ds))) m1)
          | some false => some (Res.ex c ds rho1, m1)
          | none => none) = some (r, mu') := e
        intro dd xs σ' H' F' hF s' hd rx
        cases ht1 : tc c ds.length with
        | none => rw [ht1] at e; cases e
        | some b =>
          rw [ht1] at e
          obtain ⟨hex, hlen⟩ := ht _ _ _ ht1
          rw [← hK] at hex
          refine ⟨b, hex, fun hbt a na => ?_, fun hbf => ?_⟩
          · subst hbt
            have e : backX i (ss (rho1.set i (.va (.exc c ds))) m1) = some (r, mu') := e
            refine ⟨dd, c, xs, rfl, rfl, ?_⟩
            have hl : (G.fn c).length = xs.length := by rw [hlen rfl, rx.length]
            have su : Sta (G.wx a dd c xs) am e0 rho1 m1 σ' H' F' := s'.up hx hd
            have su2 := su.set (i := i) (v := .ref a) (d := .exc c ds) (.exc rfl hl (rx.up hx))
            cases e2 : ss (rho1.set i (.va (.exc c ds))) m1 with
            | none => rw [e2] at e; cases e
            | some z2 =>
              obtain ⟨r2, m2⟩ := z2
              rw [e2] at e
              refine ⟨am, e0, _, m1, F', su2, r2, m2, e2, ?_⟩
              obtain ⟨rfl, hm, h⟩ := back_fl e
              rcases h with ⟨v, rho2, rfl, rfl, hv⟩ | ⟨fl, rho2, hfl, rfl, rfl, hr⟩
              · exact Kd.dn hx hv hm kk
              · have go : ∀ {P : L2.St → Hp → Prop}, Nx G am e0 F (rho2.set i .no) mu' P → Nx (G.wx a dd c xs) am e0 F' rho2 mu' fun σ2 H2 => P (σ2.set i none) H2 := fun {P} kn σ2 H2 F2 hF2 s2 =>
                  kn (σ2.set i none) H2 F2 (hF.trans hF2) ((s2.no (i := i)).dn hx hr hm)
                cases fl with
                | nx => exact go kk
                | bk => exact go kk
                | ct => exact go kk
                | rt v => exact absurd rfl (hfl v)
          · subst hbf
            cases e
            exact kk dd xs σ' H' F' hF s' hd rx
end
end Mi
end
section
set_option Elab.async false
set_option linter.all false
set_option maxRecDepth 100000
set_option maxHeartbeats 4000000
namespace Mi
open PySem PySem.Spec PyProof.Rows L2
open Evl (Ex)
section
variable {gb : Bool} {X : Cx} {G : Cl} {W : WX} {k : Nat} {pos p : Pos} {a b e : Expr} {f g h : EM} {x : Str} {ag : AM} {es : List Expr} {st : Stmt} {am : Addr} {e0 : En} {H F H' F' : Hp} {rho : List Slot} {mu mu' : Mu} {σ : L2.St}
/-! ### {} -/
theorem d_emp : PE X (.Dict [] [] pos) (rd G W (eC .emp)) := by
  refine PE.to pe_dnewK fun σ H Q ⟨am, e0, rho, mu, F, s, o, mu', e, k⟩ => ?_
  cases e
  exact fun p n => k _ _ _ (Post.layF s.sub s.mr n) (.emp upd_same)
/-! ### divmod; m[k], x = divmod(..) -/
def dmM : D → D → Option Vl
  | .int i, .int j => if 0 < j ∧ j < 1073741824 then some (.fz (.tup [.int (i / j), .int (i % j)])) else none
  | _, _ => none
theorem ok_dm : CallOk G (fun xs H Q => ∃ i j, xs = [.int i, .int j] ∧ CDiv i j ∧ ∀ p, H p = none → Q (.ref p) (upd H p (.tup [.int (i / j), .int (i % j)]))) (m2 dmM) := c2 fun am mu H F x y d d' vl Q s mr r r' e kk => by
  cases d with
  | int i =>
    cases d' with
    | int j =>
      obtain ⟨c, rfl⟩ := ite_some e
      cases r
      cases r'
      exact ⟨i, j, rfl, c, fun p n => Kd.tup s mr (.cons (.int _) (.cons (.int _) .nil)) n kk⟩
    | _ => cases e
  | _ => cases e
theorem boot_divmod : bootBuiltins "divmod" = some (.builtin "divmod") := by decide +kernel
theorem bi_divmod (fx : Fx0 X G W) (h : X.mg "divmod" = none) : BiOk X G "divmod" (m2 dmM) := ⟨_, _, call_divmod, ok_dm, h, .inl ⟨_, rfl, boot_divmod⟩⟩
def muK (fo fi : EM) (dx : D) (K : SM) : SM := fun rho mu => sWith fo (fun o rho => fun mu => sWith fi (fun i rho => fun mu => match muSet mu o.d i.d dx with
  | some ds => K rho (some ds)
  | none => none) rho mu) rho mu
theorem mug_to {fo fi : EM} {x : V} {dx : D} {K : SM} {r : Res} {Dn : Ends} {Pn : L2.St → Hp → Prop} (s : Sta G am e0 rho mu σ H F) (rx : Rp G F am x dx) (e : muK fo fi dx K rho mu = some (r, mu')) (ks : KoS G W am e0 F mu' Dn r)
    (hk : ∀ m' H' F', K rho m' = some (r, mu') → Ex F F' → Sta G am e0 rho m' σ H' F' → KoS G W am e0 F' mu' Dn r → Pn σ H') : gSub (rd G W fo) (rd G W fi) rSetL x σ H Pn := by
  unfold muK at e
  refine with_use s e ks fun vo m2 o H2 F2 e2 q2 s2 ro k2 => ?_
  refine with_use s2 e2 k2 fun vi m3 i H3 F3 e3 q3 s3 ri k3 => ?_
  cases hm : muSet m3 vo.d vi.d dx with
  | none =>
    have e4 : (match muSet m3 vo.d vi.d dx with
      | some ds => K rho (some ds)
      | none => none) = some (r, mu') := e3
    rw [hm] at e4
    cases e4
  | some ds' =>
    have e4 : (match muSet m3 vo.d vi.d dx with
      | some ds => K rho (some ds)
      | none => none) = some (r, mu') := e3
    rw [hm] at e4
    have ro2 := ro.mono q3
    have rv2 := (rx.mono q2).mono q3
    cases ho : vo.d with
    | mug =>
      rw [ho] at hm ro2
      cases ro2
      cases hi : vi.d with
      | int j =>
        rw [hi] at hm ri
        cases ri
        cases hz : m3 with
        | none => rw [hz] at hm; cases hm
        | some ds =>
          rw [hz] at hm
          obtain ⟨n, h1, rfl⟩ := map_some hm
          have m := s3.mr
          rw [hz] at m
          obtain ⟨g0, xs, g1, g2⟩ := m
          refine ⟨am, xs, j, n, rfl, rfl, g1, by rw [g2.length]; exact h1, ?_⟩
          have nf : ∀ (b : Addr) (u : HO), F3 b = some u → b ≠ am := fun b u e z => by rw [z, g0] at e; cases e
          have mz : m3 ≠ none := by rw [hz]; simp
          have na : ∀ b : Addr, (some (ds.set n dx) : Mu) = none ∨ b ≠ am → b ≠ am := fun b hb => hb.elim (fun z => by cases z) id
          refine hk _ _ F3 e4 (q2.trans q3) ?_ k3
          exact {
            sub := fun b u e => by rw [upd_ne (nf b u e)]; exact s3.sub b u e
            len := s3.len
            va := s3.va
            ow := fun j w h => by
              obtain ⟨p, o, a1, a2, a3, a4, a5, a6⟩ := s3.ow j w h
              have np : p ≠ am := a5.elim (fun z => absurd z mz) id
              exact ⟨p, o, a1, by rw [upd_ne np]; exact a2, a3, a4, .inr np, a6⟩
            dj := s3.dj
            oi := s3.oi
            mr := ⟨g0, _, upd_same, g2.set rv2 n⟩
            keep := fun b u hb e => by rw [upd_ne (na b hb)]; exact s3.keep b u (.inr (na b hb)) e
            tb := (gd_chg g1 (fun _ z => by cases z) (fun _ z => by cases z) (fun _ z => by cases z)).gd s3.tb
            fF := s3.fF
            new := s3.new
            mz := ⟨fun z => absurd (s3.mz.mp z) mz, fun z => by cases z⟩ }
      | _ => rw [hi] at hm; cases hm
    | _ => rw [ho] at hm; cases hm
/-- m[k], x = e, m the mug, x in slot j -/
def sMugP (j : Nat) (fe fo fi : EM) : SM := sWith fe fun v rho mu => match v.d with
  | .tup [x, y] => muK fo fi x (fun rho mu => some (.fl .nx (rho.set j (.va y)), mu)) rho mu
  | _ => none
theorem s_mugP {j : Nat} {fe fo fi : EM} (hK : X.K = G.K) (h : PS X st (tAsg (rd G W fe) (gTup X.K 2 (gCons (gSub (rd G W fo) (rd G W fi) rSetL) (gCons (gName j) gNil))))) : PS X st (rdS G W (sMugP j fe fo fi)) := by
  refine PS.to h fun Dn σ H ⟨am, e0, rho, mu, F, s, r, mu', e, k⟩ => ?_
  refine with_use s e k fun vl m1 v H1 F1 e1 q1 s1 rv k1 => ?_
  cases hv : vl.d with
  | tup ds =>
    rw [hv] at e1 rv
    cases ds with
    | nil => cases e1
    | cons dx ds =>
      cases ds with
      | nil => cases e1
      | cons dy ds =>
        cases ds with
        | cons _ _ => cases e1
        | nil =>
          cases rv with
          | tup h1 r1 =>
            cases r1 with
            | cons ra r1 =>
              cases r1 with
              | cons rb r1 =>
                cases r1
                have e1 : muK fo fi dx (fun rho mu => some (Res.fl .nx (rho.set j (.va dy)), mu)) rho m1 = some (r, mu') := e1
                refine ⟨_, _, rfl, by rw [hK]; exact Evl.ex_t s1.sub h1, rfl, _, _, rfl, ?_⟩
                refine mug_to s1 ra e1 k1 fun m' H' F' e2 q2 s2 k2 => ?_
                cases e2
                exact ⟨_, _, rfl, rfl, k2 _ H' F' (Ex.refl F') (s2.set (rb.mono q2))⟩
  | _ => rw [hv] at e1; cases e1
theorem q_mugP (j : Nat) {o i : Expr} {fo fi : EM} {y : Str} {pos1 pos2 pt : Pos} {kt : Nat} (fx : Fx gb X G W k) (hN : X.N.Nodup) (hi : X.N[j]? = some y) (hx : Loc X.env.scope y) (hf : X.fn y = true ∨ X.env.scope.names.lookup y = some .local)
    (hm : (assignEach [.Subscript o i pos1, .Name y pos2] X.env).length = 2) (hst : (assignEach [.Subscript o i pos1, .Name y pos2] X.env).findIdx? (·.1) = none) (hs : swapsWithSole [.Tuple [.Subscript o i pos1, .Name y pos2] kt pt] e pos.line X.env = pure false) (hw : swappedStores [.Tuple [.Subscript o i pos1, .Name y pos2] kt pt] e X.env = pure none)
    (h1 : (assignEach [.Tuple [.Subscript o i pos1, .Name y pos2] kt pt] X.env).map (·.2) = [assign (.Tuple [.Subscript o i pos1, .Name y pos2] kt pt) X.env])
    (ha : ∀ v, assign (.Subscript o i pos1) X.env v = (do
      let ov ← holding [v] (eval o X.env)
      let iv ← holding [v, ov] (eval i X.env)
      standAt pos1
      holding [v, ov, iv] (setItem ov iv v)
      release [v, ov, iv] []))
    (hg1 : (assignEach [.Subscript o i pos1, .Name y pos2] X.env).map (·.2) = assign (.Subscript o i pos1) X.env :: (assignEach [.Name y pos2] X.env).map (·.2)) (hg2 : (assignEach [.Name y pos2] X.env).map (·.2) = assign (.Name y pos2) X.env :: (assignEach [] X.env).map (·.2))
    (he : PE X e (rd G W f)) (ho : PE X o (rd G W fo)) (hii : PE X i (rd G W fi)) : PS X (.Assign [.Tuple [.Subscript o i pos1, .Name y pos2] kt pt] e pos) (rdS G W (sMugP j f fo fi)) :=
  s_mugP fx.hK (ps_asg he (pg_tup fx.calm (pgs_cons (pg_sub ho hii set_list ha) (pgs_cons (pg_name hN hi hx hf) pgs_nil hg2) hg1) hm hst) hs hw h1)
end

/-! ### the head's facts of own exceptions -/
def oexB (K : PySem.W.Frag) (C : Addr) : Bool := match K.lookup C with
  | some ⟨.type "type", _, .cls cd, sl⟩ => (match cd.mro, sl.toList with
    | .ref C' :: bm, [_, _, _, _, some (.builtin n), _] => C' == C && (n == "ValueError.__new__" && (!cd.hasDel && (PySem.HandSPX.refsVE bm && cd.hasDict)))
    | _, _ => false)
  | _ => false
theorem oexB_ok {K : PySem.W.Frag} {C : Addr} (h : oexB K C = true) : ∃ nm q N bs bm sn sub ab col dd k0 k1 k2 k3 k5, K.lookup C = some (excClassObj nm q C N bs bm true sn sub ab col dd k0 k1 k2 k3 k5 "ValueError.__new__") ∧ PySem.HandSPX.refsVE bm = true := by
  unfold oexB at h
  split at h
  · rename_i dd cd sl e
    split at h
    · rename_i C' bm k0 k1 k2 k3 n k5 e1 e2
      simp only [Bool.and_eq_true, beq_iff_eq, Bool.not_eq_true'] at h
      obtain ⟨rfl, rfl, h3, h4, h5⟩ := h
      obtain ⟨nm, bs, mro, N, q, hd, sn, sub, ab, col, del⟩ := cd
      dsimp only at h3 h5 e1
      subst h3 h5 e1
      obtain ⟨sl⟩ := sl
      have e2 : sl = _ := e2
      subst e2
      exact ⟨nm, q, N, bs, bm, sn, sub, ab, col, dd, k0, k1, k2, k3, k5, e, h4⟩
    · cases h
  · cases h
/-- one own exception class x with the fields fs -/
def xcB (K : PySem.W.Frag) (x : Str) (fs : List Str) : Bool :=
  oexB K (He.ga K x) && (decide (PySem.W.findIn K (.ref (He.ga K x)) "__setattr__" = some (some (.builtin "object.__setattr__"))) && (decide (PySem.W.subIn K (.ref (He.ga K x)) (.type "BaseException") = some true) && (decide (PySem.W.typeIn K (.ref (He.ga K x)) = some (.type "type")) && (PySem.W.keepIn K (.ref (He.ga K x)) &&
  (decide (PySem.W.findIn K (.ref (He.ga K x)) "__init__" = some (some (.ref (He.ma K (He.ga K x) "__init__")))) && (decide (PySem.W.typeIn K (.ref (He.ma K (He.ga K x) "__init__")) = some (.type "function")) && ((fs.all fun f => decide (PySem.W.findIn K (.ref (He.ga K x)) f = some none)) &&
  (xfB K (He.ga K x) && ((PySem.W.clsIn K (He.ga K x)).isSome && (decide (PySem.W.findIn K (.ref (He.ga K x)) "__class__" = some (some (.builtin "object.__class__"))) && (decide (PySem.W.specialIn K (.builtin "object.__class__") "__get__" = some (some (.builtin "getset_descriptor.__get__"))) &&
  (decide (PySem.W.takesIn K (.builtin "object.__class__") = some true) && decide (PySem.W.mroIn K (He.ga K x) (.type "object") = some true)))))))))))))
theorem xcB_ok {K : PySem.W.Frag} {xs : List (Str × List Str)} {T : List (Addr × Str)} {c : Nat} {x : Str} {fs : List Str} (hx : xs[c]? = some (x, fs)) (nd : fs.Nodup) (h : xcB K x fs = true) : XcOk (clOf K xs T) c ∧ XfOk (clOf K xs T) c ∧
    PySem.W.findIn K (.ref ((clOf K xs T).ca c)) "__init__" = some (some (.ref (He.ma K (He.ga K x) "__init__"))) ∧ PySem.W.typeIn K (.ref (He.ma K (He.ga K x) "__init__")) = some (.type "function") := by
  have e : xs.getD c ("", []) = (x, fs) := by rw [List.getD_eq_getElem?_getD, hx]; rfl
  have e1 : (clOf K xs T).ca c = He.ga K x := by
    show He.ga K (xs.getD c ("", [])).1 = _
    rw [e]
  have e2 : (clOf K xs T).fn c = fs := by
    show (xs.getD c ("", [])).2 = _
    rw [e]
  unfold xcB at h
  simp only [Bool.and_eq_true, decide_eq_true_eq, List.all_eq_true] at h
  obtain ⟨h1, h2, h3, h4, h5, h6, h7, h8, h9, h10, h11, h12, h13, h14⟩ := h
  have xf := xfB_ok h9
  refine ⟨⟨⟨?_, ?_, ?_, ?_, ?_⟩, ?_⟩, ⟨?_, ?_, ?_, ?_, ?_, ?_, ?_, ?_⟩, ?_, ?_⟩
  all_goals first | rw [e1] | rw [e2] | skip
  · exact oexB_ok h1
  · exact h2
  · exact h3
  · exact h4
  · exact h5
  · intro f hf
    have z := h8 f (by rw [← e2]; exact hf)
    first | exact z | (rw [e1]; exact z)
  · exact xf
  · exact nd
  · intro f hf
    have z := h8 f (by rw [← e2]; exact hf)
    first | exact z | (rw [e1]; exact z)
  · exact h10
  · exact h11
  · exact h12
  · exact h13
  · exact h14
  · exact h6
  · exact h7
/-- tables of classes: (c, y, whether c is under y) -/
def lk3 (l : List (Nat × Nat × Bool)) (c y : Nat) : Option Bool := (l.find? fun t => t.1 == c && t.2.1 == y).map (·.2.2)
theorem lk3_mem {l : List (Nat × Nat × Bool)} {c y : Nat} {b : Bool} (h : lk3 l c y = some b) : (c, y, b) ∈ l := by
  unfold lk3 at h
  obtain ⟨t, h1, h2⟩ := map_some h
  have m := List.mem_of_find?_eq_some h1
  have q := List.find?_some h1
  simp only [Bool.and_eq_true, beq_iff_eq] at q
  obtain ⟨c', y', b'⟩ := t
  obtain ⟨q1, q2⟩ := q
  dsimp only at q1 q2 h2
  subst q1 q2 h2
  exact m
def lkT (l : List (Nat × String × Bool)) (c : Nat) (y : String) : Option Bool := (l.find? fun t => t.1 == c && t.2.1 == y).map (·.2.2)
theorem lkT_mem {l : List (Nat × String × Bool)} {c : Nat} {y : String} {b : Bool} (h : lkT l c y = some b) : (c, y, b) ∈ l := by
  unfold lkT at h
  obtain ⟨t, h1, h2⟩ := map_some h
  have m := List.mem_of_find?_eq_some h1
  have q := List.find?_some h1
  simp only [Bool.and_eq_true, beq_iff_eq] at q
  obtain ⟨c', y', b'⟩ := t
  obtain ⟨q1, q2⟩ := q
  dsimp only at q1 q2 h2
  subst q1 q2 h2
  exact m
/-- who is under whom, in isinstance -/
def txC (l : List (Nat × Nat × Bool)) (lt : List (Nat × String × Bool)) (c : Nat) : D → Option Bool
  | .cls y => lk3 l c y
  | .ty y => lkT lt c y
  | _ => none
theorem xtab_of {K : PySem.W.Frag} {xs : List (Str × List Str)} {T : List (Addr × Str)} {l : List (Nat × Nat × Bool)} {lt : List (Nat × String × Bool)} (h : kitB3 K xs l = true) (h2 : kitT3 K xs lt = true) (hx : ∀ c y b, (c, y, b) ∈ l → XfOk (clOf K xs T) c) (hx2 : ∀ c y b, (c, y, b) ∈ lt → XfOk (clOf K xs T) c) : XTab (clOf K xs T) (txC l lt) where
  is := fun c y b e => by
    cases y with
    | cls y =>
      have m := lk3_mem e
      exact ⟨hx _ _ _ m, of_decide_eq_true (List.all_eq_true.mp h _ m)⟩
    | ty y =>
      have m := lkT_mem e
      exact ⟨hx2 _ _ _ m, of_decide_eq_true (List.all_eq_true.mp h2 _ m)⟩
    | _ => cases e
theorem XfOk.up {G : Cl} {c a dd c' : Nat} {xs : List V} (h : XfOk G c) : XfOk (G.wx a dd c' xs) c := ⟨h.xf, h.nd, h.no, h.hcl, h.ha, h.hn, h.ht, h.hm⟩
theorem XTab.up {G : Cl} {tx : Nat → D → Option Bool} {a dd c' : Nat} {xs : List V} (h : XTab G tx) : XTab (G.wx a dd c' xs) tx := ⟨fun c y b e => by
  obtain ⟨g1, g2⟩ := h.is c y b e
  refine ⟨g1.up, ?_⟩
  cases y with
  | cls n => exact g2
  | ty n => exact g2
  | _ => exact g2⟩
def lk2 (l : List (Nat × Nat)) (c : Nat) : Option Nat := (l.find? fun t => t.1 == c).map (·.2)
theorem lk2_mem {l : List (Nat × Nat)} {c j : Nat} (h : lk2 l c = some j) : (c, j) ∈ l := by
  unfold lk2 at h
  obtain ⟨t, h1, h2⟩ := map_some h
  have m := List.mem_of_find?_eq_some h1
  have q := List.find?_some h1
  simp only [beq_iff_eq] at q
  obtain ⟨c', y'⟩ := t
  dsimp only at q h2
  subst q h2
  exact m
/-- an except clause's table: (c, number of fields, caught) -/
def tcC (l : List (Nat × Nat × Bool)) (c n : Nat) : Option Bool := lk3 l c n
theorem tc_of {K : PySem.W.Frag} {xs : List (Str × List Str)} {T : List (Addr × Str)} {y : Nat} {l : List (Nat × Nat × Bool)} (h : exmB3 K xs y l = true) (hl : (l.all fun t => (xs.getD t.1 ("", [])).2.length == t.2.1) = true) :
    ∀ c n b, tcC l c n = some b → PySem.W.exmOne (clOf K xs T).K (.ref ((clOf K xs T).ca c)) (.ref ((clOf K xs T).ca y)) = some b ∧ (b = true → ((clOf K xs T).fn c).length = n) := fun c n b e => by
  have m := lk3_mem e
  exact ⟨of_decide_eq_true (List.all_eq_true.mp h _ m), fun _ => beq_iff_eq.mp (List.all_eq_true.mp hl _ m)⟩
/-- plain classes first, exceptions behind -/
theorem facts_pre {K : PySem.W.Frag} {xs ys : List (Str × List Str)} {T : List (Addr × Str)} (nd : (xs.map (·.1)).Nodup) (h : tabB K (xs.map (·.1)) = true) : ClFacts (clOf K (xs ++ ys) T) xs.length := by
  have F := facts_of (T := T) nd h
  have e : ∀ c, c < xs.length → (xs ++ ys).getD c ("", []) = xs.getD c ("", []) := fun c hc => by
    rw [List.getD_eq_getElem?_getD, List.getD_eq_getElem?_getD, List.getElem?_append_left hc]
  have ec : ∀ c, c < xs.length → (clOf K (xs ++ ys) T).ca c = (clOf K xs T).ca c := fun c hc => by
    show He.ga K ((xs ++ ys).getD c ("", [])).1 = He.ga K (xs.getD c ("", [])).1
    rw [e c hc]
  refine ⟨fun c hc => ?_, fun a ha c hc => ?_, fun b hb c hc => ?_, fun c c' hc hc' => ?_⟩
  · obtain ⟨z1, z2, z3, z4, z5⟩ := F.ins c hc
    refine ⟨?_, ?_, z3, z4, ?_⟩
    · rw [ec c hc]; exact z1
    · rw [ec c hc]; exact z2
    · rw [ec c hc]; exact z5
  · rw [ec c hc]; exact F.tc a ha c hc
  · rw [ec c hc]; exact F.ct b hb c hc
  · rw [ec c hc, ec c' hc']; exact F.cc c c' hc hc'
end Mi
end
section
set_option Elab.async false
set_option linter.all false
set_option maxRecDepth 100000
set_option maxHeartbeats 4000000
namespace Mi
open PySem PySem.Spec PyProof.Rows L2
open Evl (Ex)
section
variable {gb : Bool} {X : Cx} {G : Cl} {W : WX} {k : Nat} {pos : Pos} {sb : SM} {body : List Stmt} {h₀ : ExceptHandler} {hs : List ExceptHandler}
/-- try: sb / except ..: .., where sb raises nothing -/
def sThru (sb : SM) : SM := fun rho mu => match sb rho mu with
  | some (.ex _ _ _, _) => none
  | r => r
theorem Fx.nox (fx : Fx gb X G W k) : Fx gb X.nox G WN k := ⟨⟨fx.hK, takes0, PassesOwn.never⟩, fx.gd, fx.hr, fx.calm⟩
theorem s_thru0 (fx : Fx gb X G W k) (hb : Fx gb X.nox G WN k → PSs X.nox body (rdS G WN sb)) : PS X (.Try body (h₀ :: hs) [] [] pos) (rdS G W (sThru sb)) :=
  PS.to (ps_try_thru0 (hb fx.nox)) fun Dn σ H ⟨am, e0, rho, mu, F, s, r, mu', e, kk⟩ => by
    unfold sThru at e
    split at e
    · cases e
    · rename_i hn
      refine ⟨am, e0, rho, mu, F, s, r, mu', e, ?_⟩
      cases r with
      | fl fl rho1 =>
        cases fl with
        | nx => exact kk
        | bk => exact kk
        | ct => exact kk
        | rt d => exact kk
      | ex c ds rho1 => exact absurd e (hn _ _ _ _)
end
theorem nfC_up {m n : Nat} (h : m ≤ n) : ∀ t, nfC m t = true → nfC n t = true := by
  intro t e
  cases t with
  | ty a => exact e
  | cls c => exact decide_eq_true (Nat.lt_of_lt_of_le (of_decide_eq_true e) h)
  | _ => cases e
end Mi
end
section
set_option Elab.async false
set_option linter.all false
set_option maxRecDepth 100000
set_option maxHeartbeats 4000000
namespace Go
open PySem PySem.Spec PyProof.Rows L2 Mi
open Evl (Ex)
variable {P : Program} {w : World} {G : Cl} {mg : Str → Option Value} {base : Heap}

abbrev N_is_integer : List Str := [Str.ofString "value"]
theorem sc_is_integer : FnScope N_is_integer [Str.ofString "value"] (defScope s_is_integer) := ⟨rfl, rfl, rfl, by decide +kernel, rfl, by decide +kernel, by decide +kernel⟩
def b_is_integer : SM :=
    (sRet (eAnd (eCall (m2 (isiM (tbC 2))) (aCons (eVar 0) (aCons (eC (.ty "int")) aNil))) (eNot (eCall (m2 (isiM (tbC 2))) (aCons (eVar 0) (aCons (eC (.ty "bool")) aNil))))))
def m_is_integer : FM := fnM 1 (b_is_integer)
theorem c_is_integer (D : DefM G mg "is_integer" s_is_integer [Str.ofString "value"]) (n_bool : mg "bool" = none) (n_int : mg "int" = none) (n_isinstance : mg "isinstance" = none) (tab : IsTab G (tbC 2)) : CalM false P w G mg base 1 "is_integer" s_is_integer [Str.ofString "value"] (m_is_integer) :=
  calM_of (k := 0) D sc_is_integer (fun _ _ => rfl) fun f cdv A outer s H E fx => have hN := sc_is_integer.nd
    (z_one (s_ret (d_and (q_bi fx (bi_isi fx.toFx0 tab n_isinstance) rfl (by decide) rfl rfl rfl (q_cons rfl (q_var 0 rfl (by first | exact Or.inl rfl | exact Or.inr (Or.inl rfl) | exact Or.inr (Or.inr rfl)) rfl rfl) (q_cons rfl (q_ty rfl n_int PyProof.Rows.boot_int (by decide) rfl) a_nil))) (d_one (d_not (q_bi fx (bi_isi fx.toFx0 tab n_isinstance) rfl (by decide) rfl rfl rfl (q_cons rfl (q_var 0 rfl (by first | exact Or.inl rfl | exact Or.inr (Or.inl rfl) | exact Or.inr (Or.inr rfl)) rfl rfl) (q_cons rfl (q_ty rfl n_bool PyProof.Rows.boot_bool (by decide) rfl) a_nil))))))))
abbrev N_is_integer_within : List Str := [Str.ofString "value", Str.ofString "low", Str.ofString "high"]
theorem sc_is_integer_within : FnScope N_is_integer_within [Str.ofString "value", Str.ofString "low", Str.ofString "high"] (defScope s_is_integer_within) := ⟨rfl, rfl, rfl, by decide +kernel, rfl, by decide +kernel, by decide +kernel⟩
def b_is_integer_within : SM :=
    (sRet (eAnd (eOwn m_is_integer (aLen 1 (aCons (eVar 0) aNil))) (eChain leM leM (eVar 1) (eVar 0) (eVar 2))))
def m_is_integer_within : FM := fnM 3 (b_is_integer_within)
theorem c_is_integer_within (D : DefM G mg "is_integer_within" s_is_integer_within [Str.ofString "value", Str.ofString "low", Str.ofString "high"]) (c_is_integer : CalM false P w G mg base 1 "is_integer" s_is_integer [Str.ofString "value"] (m_is_integer)) : CalM false P w G mg base 2 "is_integer_within" s_is_integer_within [Str.ofString "value", Str.ofString "low", Str.ofString "high"] (m_is_integer_within) :=
  calM_of (k := 1) D sc_is_integer_within (fun _ _ => rfl) fun f cdv A outer s H E fx => have hN := sc_is_integer_within.nd
    (z_one (s_ret (d_and (q_call rfl fx c_is_integer (by decide) (by omega) rfl rfl rfl rfl (q_cons rfl (q_var 0 rfl (by first | exact Or.inl rfl | exact Or.inr (Or.inl rfl) | exact Or.inr (Or.inr rfl)) rfl rfl) a_nil)) (d_one (x_chain fx cp_le cp_le (q_var 1 rfl (by first | exact Or.inl rfl | exact Or.inr (Or.inl rfl) | exact Or.inr (Or.inr rfl)) rfl rfl) (q_var 0 rfl (by first | exact Or.inl rfl | exact Or.inr (Or.inl rfl) | exact Or.inr (Or.inr rfl)) rfl rfl) (q_var 2 rfl (by first | exact Or.inl rfl | exact Or.inr (Or.inl rfl) | exact Or.inr (Or.inr rfl)) rfl rfl) rfl)))))
abbrev N__knot_fits : List Str := [Str.ofString "degree", Str.ofString "knots", Str.ofString "index", Str.ofString "knot"]
theorem sc__knot_fits : FnScope N__knot_fits [Str.ofString "degree", Str.ofString "knots", Str.ofString "index"] (defScope s__knot_fits) := ⟨rfl, rfl, rfl, by decide +kernel, rfl, by decide +kernel, by decide +kernel⟩
def b__knot_fits : SM :=
    (sSeq (sSet 3 (eIx (eVar 1) (eVar 2)))
    (sSeq (sIf (bOr (bOf (eBin gtM (eVar 2) (eBin addA (eC (.int 10)) (eVar 0)))) (bNot (bTru (eOwn m_is_integer_within (aLen 3 (aCons (eVar 3) (aCons (eC (.int 0)) (aCons (eC (.int 1000000)) aNil)))))))) (sRet (eC (.bl false))) sNil)
    (sSeq (sIf (bAnd (bOf (eBin gtM (eVar 2) (eC (.int 0)))) (bOf (eBin ltM (eVar 3) (eIx (eVar 1) (eBin subI (eVar 2) (eC (.int 1))))))) (sRet (eC (.bl false))) sNil)
    (sRet (eOr (eBin leM (eVar 2) (eVar 0)) (eBin ltM (eIx (eVar 1) (eBin subI (eBin subI (eVar 2) (eVar 0)) (eC (.int 1)))) (eVar 3)))))))
def m__knot_fits : FM := fnM 4 (b__knot_fits)
theorem c__knot_fits (D : DefM G mg "_knot_fits" s__knot_fits [Str.ofString "degree", Str.ofString "knots", Str.ofString "index"]) (g_MOST_HILLS : GloI mg "MOST_HILLS" 10) (g_MOST_KNOT : GloI mg "MOST_KNOT" 1000000) (c_is_integer_within : CalM false P w G mg base 2 "is_integer_within" s_is_integer_within [Str.ofString "value", Str.ofString "low", Str.ofString "high"] (m_is_integer_within)) : CalM false P w G mg base 3 "_knot_fits" s__knot_fits [Str.ofString "degree", Str.ofString "knots", Str.ofString "index"] (m__knot_fits) :=
  calM_of (k := 2) D sc__knot_fits (fun _ _ => rfl) fun f cdv A outer s H E fx => have hN := sc__knot_fits.nd
    (z_cons (s_set (i := 3) (q_set 3 hN rfl (by first | exact Or.inl rfl | exact Or.inr rfl) rfl (by first | exact Or.inl rfl | exact Or.inr rfl) (x_ix fx (q_var 1 rfl (by first | exact Or.inl rfl | exact Or.inr (Or.inl rfl) | exact Or.inr (Or.inr rfl)) rfl rfl) (q_var 2 rfl (by first | exact Or.inl rfl | exact Or.inr (Or.inl rfl) | exact Or.inr (Or.inr rfl)) rfl rfl) (fun _ _ => rfl))))
    (z_cons (s_if (PW.pt (w_or (y_cmp fx cp_gt (q_var 2 rfl (by first | exact Or.inl rfl | exact Or.inr (Or.inl rfl) | exact Or.inr (Or.inr rfl)) rfl rfl) (x_add fx (d_glo rfl g_MOST_HILLS) (q_var 0 rfl (by first | exact Or.inl rfl | exact Or.inr (Or.inl rfl) | exact Or.inr (Or.inr rfl)) rfl rfl)) (nomark _)) (w_or1 (t_not (t_tru fx.hK (q_call rfl fx c_is_integer_within (by decide) (by omega) rfl rfl rfl rfl (q_cons rfl (q_var 3 rfl (by first | exact Or.inl rfl | exact Or.inr (Or.inl rfl) | exact Or.inr (Or.inr rfl)) rfl rfl) (q_cons rfl d_int (q_cons rfl (d_glo rfl g_MOST_KNOT) a_nil)))) (fun _ => rfl)))))) (z_one (s_ret d_bl)) z_nil)
    (z_cons (s_if (PW.pt (w_and (y_cmp fx cp_gt (q_var 2 rfl (by first | exact Or.inl rfl | exact Or.inr (Or.inl rfl) | exact Or.inr (Or.inr rfl)) rfl rfl) d_int (nomark _)) (w_and1 (y_cmp fx cp_lt (q_var 3 rfl (by first | exact Or.inl rfl | exact Or.inr (Or.inl rfl) | exact Or.inr (Or.inr rfl)) rfl rfl) (x_ix fx (q_var 1 rfl (by first | exact Or.inl rfl | exact Or.inr (Or.inl rfl) | exact Or.inr (Or.inr rfl)) rfl rfl) (x_sub fx (q_var 2 rfl (by first | exact Or.inl rfl | exact Or.inr (Or.inl rfl) | exact Or.inr (Or.inr rfl)) rfl rfl) d_int) (fun _ _ => rfl)) (nomark _))))) (z_one (s_ret d_bl)) z_nil)
    (z_one (s_ret (d_or (x_cmp fx cp_le (q_var 2 rfl (by first | exact Or.inl rfl | exact Or.inr (Or.inl rfl) | exact Or.inr (Or.inr rfl)) rfl rfl) (q_var 0 rfl (by first | exact Or.inl rfl | exact Or.inr (Or.inl rfl) | exact Or.inr (Or.inr rfl)) rfl rfl) (nomark _)) (d_one (x_cmp fx cp_lt (x_ix fx (q_var 1 rfl (by first | exact Or.inl rfl | exact Or.inr (Or.inl rfl) | exact Or.inr (Or.inr rfl)) rfl rfl) (x_sub fx (x_sub fx (q_var 2 rfl (by first | exact Or.inl rfl | exact Or.inr (Or.inl rfl) | exact Or.inr (Or.inr rfl)) rfl rfl) (q_var 0 rfl (by first | exact Or.inl rfl | exact Or.inr (Or.inl rfl) | exact Or.inr (Or.inr rfl)) rfl rfl)) d_int) (fun _ _ => rfl)) (q_var 3 rfl (by first | exact Or.inl rfl | exact Or.inr (Or.inl rfl) | exact Or.inr (Or.inr rfl)) rfl rfl) (nomark _)))))))))
abbrev N__check_knots : List Str := [Str.ofString "degree", Str.ofString "knots", Str.ofString "index"]
theorem sc__check_knots : FnScope N__check_knots [Str.ofString "degree", Str.ofString "knots"] (defScope s__check_knots) := ⟨rfl, rfl, rfl, by decide +kernel, rfl, by decide +kernel, by decide +kernel⟩
def b__check_knots : SM :=
    (sSeq (sIf (bOr (bNot (bTru (eCall (m2 (isiM (tbC 2))) (aCons (eVar 1) (aCons (eC (.ty "tuple")) aNil))))) (bOf (eBin ltM (eCall (m1 lenD) (aCons (eVar 1) aNil)) (eBin addA (eVar 0) (eC (.int 2)))))) sNever sNil)
    (sForR rng1 (aCons (eCall (m1 lenD) (aCons (eVar 1) aNil)) aNil) (sBody (fun d rho => some (rho.set 2 (.va d))) (sIf (bNot (bTru (eOwn m__knot_fits (aLen 3 (aCons (eVar 0) (aCons (eVar 1) (aCons (eVar 2) aNil))))))) sNever sNil))))
def m__check_knots : FM := fnM 3 (b__check_knots)
theorem c__check_knots (D : DefM G mg "_check_knots" s__check_knots [Str.ofString "degree", Str.ofString "knots"]) (n_isinstance : mg "isinstance" = none) (n_len : mg "len" = none) (n_range : mg "range" = none) (n_tuple : mg "tuple" = none) (tab : IsTab G (tbC 2)) (c__knot_fits : CalM false P w G mg base 3 "_knot_fits" s__knot_fits [Str.ofString "degree", Str.ofString "knots", Str.ofString "index"] (m__knot_fits)) : CalM false P w G mg base 4 "_check_knots" s__check_knots [Str.ofString "degree", Str.ofString "knots"] (m__check_knots) :=
  calM_of (k := 3) D sc__check_knots (fun _ _ => rfl) fun f cdv A outer s H E fx => have hN := sc__check_knots.nd
    (z_cons (s_if (PW.pt (w_or (t_not (t_tru fx.hK (q_bi fx (bi_isi fx.toFx0 tab n_isinstance) rfl (by decide) rfl rfl rfl (q_cons rfl (q_var 1 rfl (by first | exact Or.inl rfl | exact Or.inr (Or.inl rfl) | exact Or.inr (Or.inr rfl)) rfl rfl) (q_cons rfl (q_ty rfl n_tuple PyProof.Rows.boot_tuple (by decide) rfl) a_nil))) (fun _ => rfl))) (w_or1 (y_cmp fx cp_lt (q_bi fx (bi_len fx.toFx0 n_len) rfl (by decide) rfl rfl rfl (q_cons rfl (q_var 1 rfl (by first | exact Or.inl rfl | exact Or.inr (Or.inl rfl) | exact Or.inr (Or.inr rfl)) rfl rfl) a_nil)) (x_add fx (q_var 0 rfl (by first | exact Or.inl rfl | exact Or.inr (Or.inl rfl) | exact Or.inr (Or.inr rfl)) rfl rfl) d_int) (nomark _))))) (z_one s_never) z_nil)
    (z_one (q_forR1 fx rfl n_range rfl (fun _ => rfl) (q_cons rfl (q_bi fx (bi_len fx.toFx0 n_len) rfl (by decide) rfl rfl rfl (q_cons rfl (q_var 1 rfl (by first | exact Or.inl rfl | exact Or.inr (Or.inl rfl) | exact Or.inr (Or.inr rfl)) rfl rfl) a_nil)) a_nil) (q_name 2 hN rfl (by first | exact Or.inl rfl | exact Or.inr rfl) (by first | exact Or.inl rfl | exact Or.inr rfl)) tg_name (z_one (s_if (t_not (t_tru fx.hK (q_call rfl fx c__knot_fits (by decide) (by omega) rfl rfl rfl rfl (q_cons rfl (q_var 0 rfl (by first | exact Or.inl rfl | exact Or.inr (Or.inl rfl) | exact Or.inr (Or.inr rfl)) rfl rfl) (q_cons rfl (q_var 1 rfl (by first | exact Or.inl rfl | exact Or.inr (Or.inl rfl) | exact Or.inr (Or.inr rfl)) rfl rfl) (q_cons rfl (q_var 2 rfl (by first | exact Or.inl rfl | exact Or.inr (Or.inl rfl) | exact Or.inr (Or.inr rfl)) rfl rfl) a_nil)))) (fun _ => rfl))) (z_one s_never) z_nil)))))
abbrev N_Frame___init__ : List Str := [Str.ofString "self", Str.ofString "degree", Str.ofString "knots"]
theorem sc_Frame___init__ : FnScope N_Frame___init__ [Str.ofString "self", Str.ofString "degree", Str.ofString "knots"] (defScope s_Frame___init__) := ⟨rfl, rfl, rfl, by decide +kernel, rfl, by decide +kernel, by decide +kernel⟩
def b_Frame___init__ : SM :=
    (sSeq (sIf (bNot (bTru (eOwn m_is_integer_within (aLen 3 (aCons (eVar 1) (aCons (eC (.int 0)) (aCons (eC (.int 4)) aNil))))))) sNever sNil)
    (sSeq (sDrop (eOwn m__check_knots (aLen 2 (aCons (eVar 1) (aCons (eVar 2) aNil)))))
    (sSeq (sFldI 0 0 0 (eVar 1))
    (sFldI 0 0 1 (eVar 2)))))
def i_Frame : IM := initM 3 0 2 (b_Frame___init__)
theorem mkf_Frame {f : Addr} (M : Mk G.K (G.ca 0) f) (hm : mg "Frame" = some (.ref (G.ca 0))) (D : MetM G 0 "__init__" "Frame.__init__" s_Frame___init__ f [Str.ofString "self", Str.ofString "degree", Str.ofString "knots"]) (g_MOST_DEGREE : GloI mg "MOST_DEGREE" 4) (fn_Frame : G.fn 0 = [Str.ofString "_degree", Str.ofString "_knots"]) (ck_Frame : ClOk G 0) (c_is_integer_within : CalM false P w G mg base 2 "is_integer_within" s_is_integer_within [Str.ofString "value", Str.ofString "low", Str.ofString "high"] (m_is_integer_within)) (c__check_knots : CalM false P w G mg base 4 "_check_knots" s__check_knots [Str.ofString "degree", Str.ofString "knots"] (m__check_knots)) : MakF P w G mg base 5 "Frame" 0 "Frame.__init__" s_Frame___init__ [Str.ofString "self", Str.ofString "degree", Str.ofString "knots"] (i_Frame) :=
  makF_of (n := 0) (k := 4) M hm D sc_Frame___init__ (fun _ _ => by rw [fn_Frame]; rfl) fun f cdv A outer s H E fx => have hN := sc_Frame___init__.nd
    (z_cons (s_if (t_not (t_tru fx.hK (q_call rfl fx c_is_integer_within (by decide) (by omega) rfl rfl rfl rfl (q_cons rfl (q_var 1 rfl (by first | exact Or.inl rfl | exact Or.inr (Or.inl rfl) | exact Or.inr (Or.inr rfl)) rfl rfl) (q_cons rfl d_int (q_cons rfl (d_glo rfl g_MOST_DEGREE) a_nil)))) (fun _ => rfl))) (z_one s_never) z_nil)
    (z_cons (s_drop (ps_expr (q_call rfl fx c__check_knots (by decide) (by omega) rfl rfl rfl rfl (q_cons rfl (q_var 1 rfl (by first | exact Or.inl rfl | exact Or.inr (Or.inl rfl) | exact Or.inr (Or.inr rfl)) rfl rfl) (q_cons rfl (q_var 2 rfl (by first | exact Or.inl rfl | exact Or.inr (Or.inl rfl) | exact Or.inr (Or.inr rfl)) rfl rfl) a_nil)))))
    (z_cons (q_fldI 0 fx ck_Frame (by rw [fn_Frame]; rfl) (by rw [fn_Frame]; decide) rfl (q_self 0 rfl (by first | exact Or.inl rfl | exact Or.inr (Or.inl rfl) | exact Or.inr (Or.inr rfl)) rfl rfl) (q_var 1 rfl (by first | exact Or.inl rfl | exact Or.inr (Or.inl rfl) | exact Or.inr (Or.inr rfl)) rfl rfl))
    (z_one (q_fldI 0 fx ck_Frame (by rw [fn_Frame]; rfl) (by rw [fn_Frame]; decide) rfl (q_self 0 rfl (by first | exact Or.inl rfl | exact Or.inr (Or.inl rfl) | exact Or.inr (Or.inr rfl)) rfl rfl) (q_var 2 rfl (by first | exact Or.inl rfl | exact Or.inr (Or.inl rfl) | exact Or.inr (Or.inr rfl)) rfl rfl))))))
abbrev N_check_frame : List Str := [Str.ofString "frame"]
theorem sc_check_frame : FnScope N_check_frame [Str.ofString "frame"] (defScope s_check_frame) := ⟨rfl, rfl, rfl, by decide +kernel, rfl, by decide +kernel, by decide +kernel⟩
def b_check_frame : SM :=
    (sIf (bNot (bTru (eCall (m2 (isiM (tbC 2))) (aCons (eVar 0) (aCons (eC (.cls 0)) aNil))))) sNever sNil)
def m_check_frame : FM := fnM 1 (b_check_frame)
theorem c_check_frame (D : DefM G mg "check_frame" s_check_frame [Str.ofString "frame"]) (n_isinstance : mg "isinstance" = none) (k_Frame : mg "Frame" = some (.ref (G.ca 0))) (tab : IsTab G (tbC 2)) : CalM false P w G mg base 1 "check_frame" s_check_frame [Str.ofString "frame"] (m_check_frame) :=
  calM_of (k := 0) D sc_check_frame (fun _ _ => rfl) fun f cdv A outer s H E fx => have hN := sc_check_frame.nd
    (z_one (s_if (t_not (t_tru fx.hK (q_bi fx (bi_isi fx.toFx0 tab n_isinstance) rfl (by decide) rfl rfl rfl (q_cons rfl (q_var 0 rfl (by first | exact Or.inl rfl | exact Or.inr (Or.inl rfl) | exact Or.inr (Or.inr rfl)) rfl rfl) (q_cons rfl (q_cls rfl k_Frame rfl) a_nil))) (fun _ => rfl))) (z_one s_never) z_nil))
abbrev N_Frame_hills : List Str := [Str.ofString "self"]
theorem sc_Frame_hills : FnScope N_Frame_hills [Str.ofString "self"] (defScope s_Frame_hills) := ⟨rfl, rfl, rfl, by decide +kernel, rfl, by decide +kernel, by decide +kernel⟩
def b_Frame_hills : SM :=
    (sRet (eBin subI (eBin subI (eCall (m1 lenD) (aCons (eUn (fldD (fun c => if c = 0 then some 1 else none)) (eVar 0)) aNil)) (eUn (fldD (fun c => if c = 0 then some 0 else none)) (eVar 0))) (eC (.int 1))))
def m_Frame_hills : FM := fnM 1 (b_Frame_hills)
theorem p_Frame_hills {f p : Addr} (Cc : Cls G.K (G.ca 0)) (hp : PropOf G.K (G.ca 0) "hills" p f) (D : MetM G 0 "hills" "Frame.hills" s_Frame_hills f [Str.ofString "self"]) (n_len : mg "len" = none) (fn_Frame : G.fn 0 = [Str.ofString "_degree", Str.ofString "_knots"]) (ck_Frame : ClOk G 0) : ProM P w G mg base 1 0 "hills" (m_Frame_hills) :=
  proM_of (k := 0) Cc hp D sc_Frame_hills rfl (fun _ _ => rfl) fun f cdv A outer s H E fx => have hN := sc_Frame_hills.nd
    (z_one (s_ret (x_sub fx (x_sub fx (q_bi fx (bi_len fx.toFx0 n_len) rfl (by decide) rfl rfl rfl (q_cons rfl (q_fld fx (fld1 ck_Frame (by rw [fn_Frame]; rfl)) rfl (q_var 0 rfl (by first | exact Or.inl rfl | exact Or.inr (Or.inl rfl) | exact Or.inr (Or.inr rfl)) rfl rfl)) a_nil)) (q_fld fx (fld1 ck_Frame (by rw [fn_Frame]; rfl)) rfl (q_var 0 rfl (by first | exact Or.inl rfl | exact Or.inr (Or.inl rfl) | exact Or.inr (Or.inr rfl)) rfl rfl))) d_int)))
abbrev N_is_fraction : List Str := [Str.ofString "value", Str.ofString "top", Str.ofString "bottom"]
theorem sc_is_fraction : FnScope N_is_fraction [Str.ofString "value"] (defScope s_is_fraction) := ⟨rfl, rfl, rfl, by decide +kernel, rfl, by decide +kernel, by decide +kernel⟩
def b_is_fraction : SM :=
    (sSeq (sIf (bOr (bNot (bTru (eCall (m2 (isiM (tbC 2))) (aCons (eVar 0) (aCons (eC (.ty "tuple")) aNil))))) (bOf (eBin neM (eCall (m1 lenD) (aCons (eVar 0) aNil)) (eC (.int 2))))) (sRet (eC (.bl false))) sNil)
    (sSeq (sPut (putS [1, 2]) (eVar 0))
    (sRet (eAnd (eOwn m_is_integer (aLen 1 (aCons (eVar 1) aNil))) (eAnd (eOwn m_is_integer (aLen 1 (aCons (eVar 2) aNil))) (eAnd (eBin geM (eVar 2) (eC (.int 1))) (eBin eqM (eCall (m2 gcdM) (aCons (eVar 1) (aCons (eVar 2) aNil))) (eC (.int 1)))))))))
def m_is_fraction : FM := fnM 3 (b_is_fraction)
theorem c_is_fraction (D : DefM G mg "is_fraction" s_is_fraction [Str.ofString "value"]) (n_isinstance : mg "isinstance" = none) (n_len : mg "len" = none) (n_tuple : mg "tuple" = none) (f_gcd : mg "gcd" = some (.builtin "math.gcd")) (tab : IsTab G (tbC 2)) (c_is_integer : CalM false P w G mg base 1 "is_integer" s_is_integer [Str.ofString "value"] (m_is_integer)) : CalM false P w G mg base 2 "is_fraction" s_is_fraction [Str.ofString "value"] (m_is_fraction) :=
  calM_of (k := 1) D sc_is_fraction (fun _ _ => rfl) fun f cdv A outer s H E fx => have hN := sc_is_fraction.nd
    (z_cons (s_if (PW.pt (w_or (t_not (t_tru fx.hK (q_bi fx (bi_isi fx.toFx0 tab n_isinstance) rfl (by decide) rfl rfl rfl (q_cons rfl (q_var 0 rfl (by first | exact Or.inl rfl | exact Or.inr (Or.inl rfl) | exact Or.inr (Or.inr rfl)) rfl rfl) (q_cons rfl (q_ty rfl n_tuple PyProof.Rows.boot_tuple (by decide) rfl) a_nil))) (fun _ => rfl))) (w_or1 (y_cmp fx (cp_ne fx) (q_bi fx (bi_len fx.toFx0 n_len) rfl (by decide) rfl rfl rfl (q_cons rfl (q_var 0 rfl (by first | exact Or.inl rfl | exact Or.inr (Or.inl rfl) | exact Or.inr (Or.inr rfl)) rfl rfl) a_nil)) d_int (nomark _))))) (z_one (s_ret d_bl)) z_nil)
    (z_cons (q_unp [1, 2] rfl fx rfl rfl rfl rfl rfl (q_var 0 rfl (by first | exact Or.inl rfl | exact Or.inr (Or.inl rfl) | exact Or.inr (Or.inr rfl)) rfl rfl) (q_gcons rfl (q_name 1 hN rfl (by first | exact Or.inl rfl | exact Or.inr rfl) (by first | exact Or.inl rfl | exact Or.inr rfl)) (q_gcons rfl (q_name 2 hN rfl (by first | exact Or.inl rfl | exact Or.inr rfl) (by first | exact Or.inl rfl | exact Or.inr rfl)) pgs_nil)))
    (z_one (s_ret (d_and (q_call rfl fx c_is_integer (by decide) (by omega) rfl rfl rfl rfl (q_cons rfl (q_var 1 rfl (by first | exact Or.inl rfl | exact Or.inr (Or.inl rfl) | exact Or.inr (Or.inr rfl)) rfl rfl) a_nil)) (d_and (q_call rfl fx c_is_integer (by decide) (by omega) rfl rfl rfl rfl (q_cons rfl (q_var 2 rfl (by first | exact Or.inl rfl | exact Or.inr (Or.inl rfl) | exact Or.inr (Or.inr rfl)) rfl rfl) a_nil)) (d_and (x_cmp fx cp_ge (q_var 2 rfl (by first | exact Or.inl rfl | exact Or.inr (Or.inl rfl) | exact Or.inr (Or.inr rfl)) rfl rfl) d_int (nomark _)) (d_one (x_cmp fx (cp_eq fx) (q_gcd fx rfl f_gcd rfl rfl (q_cons rfl (q_var 1 rfl (by first | exact Or.inl rfl | exact Or.inr (Or.inl rfl) | exact Or.inr (Or.inr rfl)) rfl rfl) (q_cons rfl (q_var 2 rfl (by first | exact Or.inl rfl | exact Or.inr (Or.inl rfl) | exact Or.inr (Or.inr rfl)) rfl rfl) a_nil))) d_int (nomark _))))))))))
abbrev N_check_amounts : List Str := [Str.ofString "frame", Str.ofString "amounts", Str.ofString "index", Str.ofString "amount"]
theorem sc_check_amounts : FnScope N_check_amounts [Str.ofString "frame", Str.ofString "amounts"] (defScope s_check_amounts) := ⟨rfl, rfl, rfl, by decide +kernel, rfl, by decide +kernel, by decide +kernel⟩
def b_check_amounts : SM :=
    (sSeq (sIf (bOr (bNot (bTru (eCall (m2 (isiM (tbC 2))) (aCons (eVar 1) (aCons (eC (.ty "tuple")) aNil))))) (bOf (eBin neM (eCall (m1 lenD) (aCons (eVar 1) aNil)) (eProp 0 m_Frame_hills (eVar 0))))) sNever sNil)
    (sForE (aCons (eVar 1) aNil) (sBody (putPair 2 3) (sIf (bNot (bTru (eOwn m_is_fraction (aLen 1 (aCons (eVar 3) aNil))))) sNever sNil))))
def m_check_amounts : FM := fnM 4 (b_check_amounts)
theorem c_check_amounts (D : DefM G mg "check_amounts" s_check_amounts [Str.ofString "frame", Str.ofString "amounts"]) (n_enumerate : mg "enumerate" = none) (n_isinstance : mg "isinstance" = none) (n_len : mg "len" = none) (n_tuple : mg "tuple" = none) (tab : IsTab G (tbC 2)) (p_Frame_hills : ProM P w G mg base 1 0 "hills" (m_Frame_hills)) (c_is_fraction : CalM false P w G mg base 2 "is_fraction" s_is_fraction [Str.ofString "value"] (m_is_fraction)) : CalM false P w G mg base 3 "check_amounts" s_check_amounts [Str.ofString "frame", Str.ofString "amounts"] (m_check_amounts) :=
  calM_of (k := 2) D sc_check_amounts (fun _ _ => rfl) fun f cdv A outer s H E fx => have hN := sc_check_amounts.nd
    (z_cons (s_if (PW.pt (w_or (t_not (t_tru fx.hK (q_bi fx (bi_isi fx.toFx0 tab n_isinstance) rfl (by decide) rfl rfl rfl (q_cons rfl (q_var 1 rfl (by first | exact Or.inl rfl | exact Or.inr (Or.inl rfl) | exact Or.inr (Or.inr rfl)) rfl rfl) (q_cons rfl (q_ty rfl n_tuple PyProof.Rows.boot_tuple (by decide) rfl) a_nil))) (fun _ => rfl))) (w_or1 (y_cmp fx (cp_ne fx) (q_bi fx (bi_len fx.toFx0 n_len) rfl (by decide) rfl rfl rfl (q_cons rfl (q_var 1 rfl (by first | exact Or.inl rfl | exact Or.inr (Or.inl rfl) | exact Or.inr (Or.inr rfl)) rfl rfl) a_nil)) (q_prop fx p_Frame_hills (by decide) rfl (q_var 0 rfl (by first | exact Or.inl rfl | exact Or.inr (Or.inl rfl) | exact Or.inr (Or.inr rfl)) rfl rfl)) (nomark _))))) (z_one s_never) z_nil)
    (z_one (q_forE fx rfl n_enumerate rfl (fun _ => rfl) (q_cons rfl (q_var 1 rfl (by first | exact Or.inl rfl | exact Or.inr (Or.inl rfl) | exact Or.inr (Or.inr rfl)) rfl rfl) a_nil) (q_tup fx rfl rfl (q_gcons rfl (q_name 2 hN rfl (by first | exact Or.inl rfl | exact Or.inr rfl) (by first | exact Or.inl rfl | exact Or.inr rfl)) (q_gcons rfl (q_name 3 hN rfl (by first | exact Or.inl rfl | exact Or.inr rfl) (by first | exact Or.inl rfl | exact Or.inr rfl)) pgs_nil))) (tg_pair fx.hK) (z_one (s_if (t_not (t_tru fx.hK (q_call rfl fx c_is_fraction (by decide) (by omega) rfl rfl rfl rfl (q_cons rfl (q_var 3 rfl (by first | exact Or.inl rfl | exact Or.inr (Or.inl rfl) | exact Or.inr (Or.inr rfl)) rfl rfl) a_nil)) (fun _ => rfl))) (z_one s_never) z_nil)))))
abbrev N_Curve___init__ : List Str := [Str.ofString "self", Str.ofString "frame", Str.ofString "amounts"]
theorem sc_Curve___init__ : FnScope N_Curve___init__ [Str.ofString "self", Str.ofString "frame", Str.ofString "amounts"] (defScope s_Curve___init__) := ⟨rfl, rfl, rfl, by decide +kernel, rfl, by decide +kernel, by decide +kernel⟩
def b_Curve___init__ : SM :=
    (sSeq (sDrop (eOwn m_check_frame (aLen 1 (aCons (eVar 1) aNil))))
    (sSeq (sDrop (eOwn m_check_amounts (aLen 2 (aCons (eVar 1) (aCons (eVar 2) aNil)))))
    (sSeq (sFldI 0 1 0 (eVar 1))
    (sFldI 0 1 1 (eVar 2)))))
def i_Curve : IM := initM 3 1 2 (b_Curve___init__)
theorem mkf_Curve {f : Addr} (M : Mk G.K (G.ca 1) f) (hm : mg "Curve" = some (.ref (G.ca 1))) (D : MetM G 1 "__init__" "Curve.__init__" s_Curve___init__ f [Str.ofString "self", Str.ofString "frame", Str.ofString "amounts"]) (fn_Curve : G.fn 1 = [Str.ofString "_frame", Str.ofString "_amounts"]) (ck_Curve : ClOk G 1) (c_check_frame : CalM false P w G mg base 1 "check_frame" s_check_frame [Str.ofString "frame"] (m_check_frame)) (c_check_amounts : CalM false P w G mg base 3 "check_amounts" s_check_amounts [Str.ofString "frame", Str.ofString "amounts"] (m_check_amounts)) : MakF P w G mg base 4 "Curve" 1 "Curve.__init__" s_Curve___init__ [Str.ofString "self", Str.ofString "frame", Str.ofString "amounts"] (i_Curve) :=
  makF_of (n := 0) (k := 3) M hm D sc_Curve___init__ (fun _ _ => by rw [fn_Curve]; rfl) fun f cdv A outer s H E fx => have hN := sc_Curve___init__.nd
    (z_cons (s_drop (ps_expr (q_call rfl fx c_check_frame (by decide) (by omega) rfl rfl rfl rfl (q_cons rfl (q_var 1 rfl (by first | exact Or.inl rfl | exact Or.inr (Or.inl rfl) | exact Or.inr (Or.inr rfl)) rfl rfl) a_nil))))
    (z_cons (s_drop (ps_expr (q_call rfl fx c_check_amounts (by decide) (by omega) rfl rfl rfl rfl (q_cons rfl (q_var 1 rfl (by first | exact Or.inl rfl | exact Or.inr (Or.inl rfl) | exact Or.inr (Or.inr rfl)) rfl rfl) (q_cons rfl (q_var 2 rfl (by first | exact Or.inl rfl | exact Or.inr (Or.inl rfl) | exact Or.inr (Or.inr rfl)) rfl rfl) a_nil)))))
    (z_cons (q_fldI 0 fx ck_Curve (by rw [fn_Curve]; rfl) (by rw [fn_Curve]; decide) rfl (q_self 0 rfl (by first | exact Or.inl rfl | exact Or.inr (Or.inl rfl) | exact Or.inr (Or.inr rfl)) rfl rfl) (q_var 1 rfl (by first | exact Or.inl rfl | exact Or.inr (Or.inl rfl) | exact Or.inr (Or.inr rfl)) rfl rfl))
    (z_one (q_fldI 0 fx ck_Curve (by rw [fn_Curve]; rfl) (by rw [fn_Curve]; decide) rfl (q_self 0 rfl (by first | exact Or.inl rfl | exact Or.inr (Or.inl rfl) | exact Or.inr (Or.inr rfl)) rfl rfl) (q_var 2 rfl (by first | exact Or.inl rfl | exact Or.inr (Or.inl rfl) | exact Or.inr (Or.inr rfl)) rfl rfl))))))
abbrev N_check_place : List Str := [Str.ofString "place"]
theorem sc_check_place : FnScope N_check_place [Str.ofString "place"] (defScope s_check_place) := ⟨rfl, rfl, rfl, by decide +kernel, rfl, by decide +kernel, by decide +kernel⟩
def b_check_place : SM :=
    (sIf (bNot (bTru (eOwn m_is_integer_within (aLen 3 (aCons (eVar 0) (aCons (eC (.int 0)) (aCons (eC (.int 1000000)) aNil))))))) sNever sNil)
def m_check_place : FM := fnM 1 (b_check_place)
theorem c_check_place (D : DefM G mg "check_place" s_check_place [Str.ofString "place"]) (g_MOST_KNOT : GloI mg "MOST_KNOT" 1000000) (c_is_integer_within : CalM false P w G mg base 2 "is_integer_within" s_is_integer_within [Str.ofString "value", Str.ofString "low", Str.ofString "high"] (m_is_integer_within)) : CalM false P w G mg base 3 "check_place" s_check_place [Str.ofString "place"] (m_check_place) :=
  calM_of (k := 2) D sc_check_place (fun _ _ => rfl) fun f cdv A outer s H E fx => have hN := sc_check_place.nd
    (z_one (s_if (t_not (t_tru fx.hK (q_call rfl fx c_is_integer_within (by decide) (by omega) rfl rfl rfl rfl (q_cons rfl (q_var 0 rfl (by first | exact Or.inl rfl | exact Or.inr (Or.inl rfl) | exact Or.inr (Or.inr rfl)) rfl rfl) (q_cons rfl d_int (q_cons rfl (d_glo rfl g_MOST_KNOT) a_nil)))) (fun _ => rfl))) (z_one s_never) z_nil))
abbrev N_reduced : List Str := [Str.ofString "top", Str.ofString "bottom", Str.ofString "common"]
theorem sc_reduced : FnScope N_reduced [Str.ofString "top", Str.ofString "bottom"] (defScope s_reduced) := ⟨rfl, rfl, rfl, by decide +kernel, rfl, by decide +kernel, by decide +kernel⟩
def b_reduced : SM :=
    (sSeq (sSet 2 (eIf (bOf (eBin gtM (eVar 1) (eC (.int 0)))) (eCall (m2 gcdM) (aCons (eVar 0) (aCons (eVar 1) aNil))) (eUn negI (eCall (m2 gcdM) (aCons (eVar 0) (aCons (eVar 1) aNil))))))
    (sRet (eCall mTup (aCons (eBin divA (eVar 0) (eVar 2)) (aCons (eBin divA (eVar 1) (eVar 2)) aNil)))))
def m_reduced : FM := fnM 3 (b_reduced)
theorem c_reduced (D : DefM G mg "reduced" s_reduced [Str.ofString "top", Str.ofString "bottom"]) (f_gcd : mg "gcd" = some (.builtin "math.gcd")) : CalM false P w G mg base 1 "reduced" s_reduced [Str.ofString "top", Str.ofString "bottom"] (m_reduced) :=
  calM_of (k := 0) D sc_reduced (fun _ _ => rfl) fun f cdv A outer s H E fx => have hN := sc_reduced.nd
    (z_cons (s_set (i := 2) (q_set 2 hN rfl (by first | exact Or.inl rfl | exact Or.inr rfl) rfl (by first | exact Or.inl rfl | exact Or.inr rfl) (d_if (y_cmp fx cp_gt (q_var 1 rfl (by first | exact Or.inl rfl | exact Or.inr (Or.inl rfl) | exact Or.inr (Or.inr rfl)) rfl rfl) d_int (nomark _)) (q_gcd fx rfl f_gcd rfl rfl (q_cons rfl (q_var 0 rfl (by first | exact Or.inl rfl | exact Or.inr (Or.inl rfl) | exact Or.inr (Or.inr rfl)) rfl rfl) (q_cons rfl (q_var 1 rfl (by first | exact Or.inl rfl | exact Or.inr (Or.inl rfl) | exact Or.inr (Or.inr rfl)) rfl rfl) a_nil))) (d_neg (q_gcd fx rfl f_gcd rfl rfl (q_cons rfl (q_var 0 rfl (by first | exact Or.inl rfl | exact Or.inr (Or.inl rfl) | exact Or.inr (Or.inr rfl)) rfl rfl) (q_cons rfl (q_var 1 rfl (by first | exact Or.inl rfl | exact Or.inr (Or.inl rfl) | exact Or.inr (Or.inr rfl)) rfl rfl) a_nil)))))))
    (z_one (s_ret (d_tup (q_cons rfl (x_div fx (q_var 0 rfl (by first | exact Or.inl rfl | exact Or.inr (Or.inl rfl) | exact Or.inr (Or.inr rfl)) rfl rfl) (q_var 2 rfl (by first | exact Or.inl rfl | exact Or.inr (Or.inl rfl) | exact Or.inr (Or.inr rfl)) rfl rfl)) (q_cons rfl (x_div fx (q_var 1 rfl (by first | exact Or.inl rfl | exact Or.inr (Or.inl rfl) | exact Or.inr (Or.inr rfl)) rfl rfl) (q_var 2 rfl (by first | exact Or.inl rfl | exact Or.inr (Or.inl rfl) | exact Or.inr (Or.inr rfl)) rfl rfl)) a_nil))))))
abbrev N_plus : List Str := [Str.ofString "one", Str.ofString "other"]
theorem sc_plus : FnScope N_plus [Str.ofString "one", Str.ofString "other"] (defScope s_plus) := ⟨rfl, rfl, rfl, by decide +kernel, rfl, by decide +kernel, by decide +kernel⟩
def b_plus : SM :=
    (sRet (eOwn m_reduced (aLen 2 (aCons (eBin addA (eBin mulA (eIx (eVar 0) (eC (.int 0))) (eIx (eVar 1) (eC (.int 1)))) (eBin mulA (eIx (eVar 1) (eC (.int 0))) (eIx (eVar 0) (eC (.int 1))))) (aCons (eBin mulA (eIx (eVar 0) (eC (.int 1))) (eIx (eVar 1) (eC (.int 1)))) aNil)))))
def m_plus : FM := fnM 2 (b_plus)
theorem c_plus (D : DefM G mg "plus" s_plus [Str.ofString "one", Str.ofString "other"]) (c_reduced : CalM false P w G mg base 1 "reduced" s_reduced [Str.ofString "top", Str.ofString "bottom"] (m_reduced)) : CalM false P w G mg base 2 "plus" s_plus [Str.ofString "one", Str.ofString "other"] (m_plus) :=
  calM_of (k := 1) D sc_plus (fun _ _ => rfl) fun f cdv A outer s H E fx => have hN := sc_plus.nd
    (z_one (s_ret (q_call rfl fx c_reduced (by decide) (by omega) rfl rfl rfl rfl (q_cons rfl (x_add fx (x_mul fx (x_ix fx (q_var 0 rfl (by first | exact Or.inl rfl | exact Or.inr (Or.inl rfl) | exact Or.inr (Or.inr rfl)) rfl rfl) d_int (fun _ _ => rfl)) (x_ix fx (q_var 1 rfl (by first | exact Or.inl rfl | exact Or.inr (Or.inl rfl) | exact Or.inr (Or.inr rfl)) rfl rfl) d_int (fun _ _ => rfl))) (x_mul fx (x_ix fx (q_var 1 rfl (by first | exact Or.inl rfl | exact Or.inr (Or.inl rfl) | exact Or.inr (Or.inr rfl)) rfl rfl) d_int (fun _ _ => rfl)) (x_ix fx (q_var 0 rfl (by first | exact Or.inl rfl | exact Or.inr (Or.inl rfl) | exact Or.inr (Or.inr rfl)) rfl rfl) d_int (fun _ _ => rfl)))) (q_cons rfl (x_mul fx (x_ix fx (q_var 0 rfl (by first | exact Or.inl rfl | exact Or.inr (Or.inl rfl) | exact Or.inr (Or.inr rfl)) rfl rfl) d_int (fun _ _ => rfl)) (x_ix fx (q_var 1 rfl (by first | exact Or.inl rfl | exact Or.inr (Or.inl rfl) | exact Or.inr (Or.inr rfl)) rfl rfl) d_int (fun _ _ => rfl))) a_nil)))))
abbrev N_times : List Str := [Str.ofString "one", Str.ofString "other"]
theorem sc_times : FnScope N_times [Str.ofString "one", Str.ofString "other"] (defScope s_times) := ⟨rfl, rfl, rfl, by decide +kernel, rfl, by decide +kernel, by decide +kernel⟩
def b_times : SM :=
    (sRet (eOwn m_reduced (aLen 2 (aCons (eBin mulA (eIx (eVar 0) (eC (.int 0))) (eIx (eVar 1) (eC (.int 0)))) (aCons (eBin mulA (eIx (eVar 0) (eC (.int 1))) (eIx (eVar 1) (eC (.int 1)))) aNil)))))
def m_times : FM := fnM 2 (b_times)
theorem c_times (D : DefM G mg "times" s_times [Str.ofString "one", Str.ofString "other"]) (c_reduced : CalM false P w G mg base 1 "reduced" s_reduced [Str.ofString "top", Str.ofString "bottom"] (m_reduced)) : CalM false P w G mg base 2 "times" s_times [Str.ofString "one", Str.ofString "other"] (m_times) :=
  calM_of (k := 1) D sc_times (fun _ _ => rfl) fun f cdv A outer s H E fx => have hN := sc_times.nd
    (z_one (s_ret (q_call rfl fx c_reduced (by decide) (by omega) rfl rfl rfl rfl (q_cons rfl (x_mul fx (x_ix fx (q_var 0 rfl (by first | exact Or.inl rfl | exact Or.inr (Or.inl rfl) | exact Or.inr (Or.inr rfl)) rfl rfl) d_int (fun _ _ => rfl)) (x_ix fx (q_var 1 rfl (by first | exact Or.inl rfl | exact Or.inr (Or.inl rfl) | exact Or.inr (Or.inr rfl)) rfl rfl) d_int (fun _ _ => rfl))) (q_cons rfl (x_mul fx (x_ix fx (q_var 0 rfl (by first | exact Or.inl rfl | exact Or.inr (Or.inl rfl) | exact Or.inr (Or.inr rfl)) rfl rfl) d_int (fun _ _ => rfl)) (x_ix fx (q_var 1 rfl (by first | exact Or.inl rfl | exact Or.inr (Or.inl rfl) | exact Or.inr (Or.inr rfl)) rfl rfl) d_int (fun _ _ => rfl))) a_nil)))))
abbrev N_sum_of_products : List Str := [Str.ofString "ones", Str.ofString "others", Str.ofString "total", Str.ofString "one", Str.ofString "other"]
theorem sc_sum_of_products : FnScope N_sum_of_products [Str.ofString "ones", Str.ofString "others"] (defScope s_sum_of_products) := ⟨rfl, rfl, rfl, by decide +kernel, rfl, by decide +kernel, by decide +kernel⟩
def b_sum_of_products : SM :=
    (sSeq (sSet 2 (eC (.tup [.int 0, .int 1])))
    (sSeq (sForZM (aCons (eVar 0) (aCons (eVar 1) aNil)) (sBody (putPair 3 4) (sSet 2 (eOwn m_plus (aLen 2 (aCons (eVar 2) (aCons (eOwn m_times (aLen 2 (aCons (eVar 3) (aCons (eVar 4) aNil)))) aNil)))))))
    (sRet (eVar 2))))
def m_sum_of_products : FM := fnM 5 (b_sum_of_products)
theorem c_sum_of_products (D : DefM G mg "sum_of_products" s_sum_of_products [Str.ofString "ones", Str.ofString "others"]) (n_zip : mg "zip" = none) (g_ZERO : GloT G mg "ZERO" [.int 0, .int 1]) (c_times : CalM false P w G mg base 2 "times" s_times [Str.ofString "one", Str.ofString "other"] (m_times)) (c_plus : CalM false P w G mg base 2 "plus" s_plus [Str.ofString "one", Str.ofString "other"] (m_plus)) : CalM false P w G mg base 3 "sum_of_products" s_sum_of_products [Str.ofString "ones", Str.ofString "others"] (m_sum_of_products) :=
  calM_of (k := 2) D sc_sum_of_products (fun _ _ => rfl) fun f cdv A outer s H E fx => have hN := sc_sum_of_products.nd
    (z_cons (s_set (i := 2) (q_set 2 hN rfl (by first | exact Or.inl rfl | exact Or.inr rfl) rfl (by first | exact Or.inl rfl | exact Or.inr rfl) (d_gloT rfl g_ZERO)))
    (z_cons (q_forZM fx rfl n_zip rfl rfl (fun _ => rfl) (q_cons rfl (q_var 0 rfl (by first | exact Or.inl rfl | exact Or.inr (Or.inl rfl) | exact Or.inr (Or.inr rfl)) rfl rfl) (q_cons rfl (q_var 1 rfl (by first | exact Or.inl rfl | exact Or.inr (Or.inl rfl) | exact Or.inr (Or.inr rfl)) rfl rfl) a_nil)) (q_tup fx rfl rfl (q_gcons rfl (q_name 3 hN rfl (by first | exact Or.inl rfl | exact Or.inr rfl) (by first | exact Or.inl rfl | exact Or.inr rfl)) (q_gcons rfl (q_name 4 hN rfl (by first | exact Or.inl rfl | exact Or.inr rfl) (by first | exact Or.inl rfl | exact Or.inr rfl)) pgs_nil))) (tg_pair fx.hK) (z_one (s_set (i := 2) (q_set 2 hN rfl (by first | exact Or.inl rfl | exact Or.inr rfl) rfl (by first | exact Or.inl rfl | exact Or.inr rfl) (q_call rfl fx c_plus (by decide) (by omega) rfl rfl rfl rfl (q_cons rfl (q_var 2 rfl (by first | exact Or.inl rfl | exact Or.inr (Or.inl rfl) | exact Or.inr (Or.inr rfl)) rfl rfl) (q_cons rfl (q_call rfl fx c_times (by decide) (by omega) rfl rfl rfl rfl (q_cons rfl (q_var 3 rfl (by first | exact Or.inl rfl | exact Or.inr (Or.inl rfl) | exact Or.inr (Or.inr rfl)) rfl rfl) (q_cons rfl (q_var 4 rfl (by first | exact Or.inl rfl | exact Or.inr (Or.inl rfl) | exact Or.inr (Or.inr rfl)) rfl rfl) a_nil))) a_nil)))))))
    (z_one (s_ret (q_var 2 rfl (by first | exact Or.inl rfl | exact Or.inr (Or.inl rfl) | exact Or.inr (Or.inr rfl)) rfl rfl)))))
abbrev N__flat_value : List Str := [Str.ofString "knots", Str.ofString "index", Str.ofString "place", Str.ofString "low", Str.ofString "high"]
theorem sc__flat_value : FnScope N__flat_value [Str.ofString "knots", Str.ofString "index", Str.ofString "place"] (defScope s__flat_value) := ⟨rfl, rfl, rfl, by decide +kernel, rfl, by decide +kernel, by decide +kernel⟩
def b__flat_value : SM :=
    (sSeq (sPar 3 4 (aCons (eIx (eVar 0) (eVar 1)) (aCons (eIx (eVar 0) (eBin addA (eVar 1) (eC (.int 1)))) aNil)))
    (sRet (eIf (bOr (bOf (eChain leM ltM (eVar 3) (eVar 2) (eVar 4))) (bOf (eChain3 ltM eqM eqM (eVar 3) (eVar 2) (eVar 4) (eIx (eVar 0) (eUn negI (eC (.int 1))))))) (eC (.tup [.int 1, .int 1])) (eC (.tup [.int 0, .int 1])))))
def m__flat_value : FM := fnM 5 (b__flat_value)
theorem c__flat_value (D : DefM G mg "_flat_value" s__flat_value [Str.ofString "knots", Str.ofString "index", Str.ofString "place"]) (g_ONE : GloT G mg "ONE" [.int 1, .int 1]) (g_ZERO : GloT G mg "ZERO" [.int 0, .int 1]) : CalM false P w G mg base 1 "_flat_value" s__flat_value [Str.ofString "knots", Str.ofString "index", Str.ofString "place"] (m__flat_value) :=
  calM_of (k := 0) D sc__flat_value (fun _ _ => rfl) fun f cdv A outer s H E fx => have hN := sc__flat_value.nd
    (z_cons (s_par (ps_par (i := 3) (j := 4) fx.calm hN rfl rfl (by decide) rfl rfl (q_cons rfl (x_ix fx (q_var 0 rfl (by first | exact Or.inl rfl | exact Or.inr (Or.inl rfl) | exact Or.inr (Or.inr rfl)) rfl rfl) (q_var 1 rfl (by first | exact Or.inl rfl | exact Or.inr (Or.inl rfl) | exact Or.inr (Or.inr rfl)) rfl rfl) (fun _ _ => rfl)) (q_cons rfl (x_ix fx (q_var 0 rfl (by first | exact Or.inl rfl | exact Or.inr (Or.inl rfl) | exact Or.inr (Or.inr rfl)) rfl rfl) (x_add fx (q_var 1 rfl (by first | exact Or.inl rfl | exact Or.inr (Or.inl rfl) | exact Or.inr (Or.inr rfl)) rfl rfl) d_int) (fun _ _ => rfl)) a_nil)) rfl))
    (z_one (s_ret (d_if (PW.pt (w_or (y_chain fx cp_le cp_lt (q_var 3 rfl (by first | exact Or.inl rfl | exact Or.inr (Or.inl rfl) | exact Or.inr (Or.inr rfl)) rfl rfl) (q_var 2 rfl (by first | exact Or.inl rfl | exact Or.inr (Or.inl rfl) | exact Or.inr (Or.inr rfl)) rfl rfl) (q_var 4 rfl (by first | exact Or.inl rfl | exact Or.inr (Or.inl rfl) | exact Or.inr (Or.inr rfl)) rfl rfl) rfl) (w_or1 (y_chain3 fx cp_lt (cp_eq fx) (cp_eq fx) (q_var 3 rfl (by first | exact Or.inl rfl | exact Or.inr (Or.inl rfl) | exact Or.inr (Or.inr rfl)) rfl rfl) (q_var 2 rfl (by first | exact Or.inl rfl | exact Or.inr (Or.inl rfl) | exact Or.inr (Or.inr rfl)) rfl rfl) (q_var 4 rfl (by first | exact Or.inl rfl | exact Or.inr (Or.inl rfl) | exact Or.inr (Or.inr rfl)) rfl rfl) (x_ix fx (q_var 0 rfl (by first | exact Or.inl rfl | exact Or.inr (Or.inl rfl) | exact Or.inr (Or.inr rfl)) rfl rfl) (d_neg d_int) (fun _ _ => rfl)) rfl)))) (d_gloT rfl g_ONE) (d_gloT rfl g_ZERO)))))
abbrev N__part : List Str := [Str.ofString "top", Str.ofString "bottom", Str.ofString "worth"]
theorem sc__part : FnScope N__part [Str.ofString "top", Str.ofString "bottom", Str.ofString "worth"] (defScope s__part) := ⟨rfl, rfl, rfl, by decide +kernel, rfl, by decide +kernel, by decide +kernel⟩
def b__part : SM :=
    (sRet (eIf (bOf (eBin neM (eVar 2) (eC (.tup [.int 0, .int 1])))) (eOwn m_times (aLen 2 (aCons (eOwn m_reduced (aLen 2 (aCons (eVar 0) (aCons (eVar 1) aNil)))) (aCons (eVar 2) aNil)))) (eC (.tup [.int 0, .int 1]))))
def m__part : FM := fnM 3 (b__part)
theorem c__part (D : DefM G mg "_part" s__part [Str.ofString "top", Str.ofString "bottom", Str.ofString "worth"]) (g_ZERO : GloT G mg "ZERO" [.int 0, .int 1]) (c_reduced : CalM false P w G mg base 1 "reduced" s_reduced [Str.ofString "top", Str.ofString "bottom"] (m_reduced)) (c_times : CalM false P w G mg base 2 "times" s_times [Str.ofString "one", Str.ofString "other"] (m_times)) : CalM false P w G mg base 3 "_part" s__part [Str.ofString "top", Str.ofString "bottom", Str.ofString "worth"] (m__part) :=
  calM_of (k := 2) D sc__part (fun _ _ => rfl) fun f cdv A outer s H E fx => have hN := sc__part.nd
    (z_one (s_ret (d_if (y_cmp fx (cp_ne fx) (q_var 2 rfl (by first | exact Or.inl rfl | exact Or.inr (Or.inl rfl) | exact Or.inr (Or.inr rfl)) rfl rfl) (d_gloT rfl g_ZERO) (nomark _)) (q_call rfl fx c_times (by decide) (by omega) rfl rfl rfl rfl (q_cons rfl (q_call rfl fx c_reduced (by decide) (by omega) rfl rfl rfl rfl (q_cons rfl (q_var 0 rfl (by first | exact Or.inl rfl | exact Or.inr (Or.inl rfl) | exact Or.inr (Or.inr rfl)) rfl rfl) (q_cons rfl (q_var 1 rfl (by first | exact Or.inl rfl | exact Or.inr (Or.inl rfl) | exact Or.inr (Or.inr rfl)) rfl rfl) a_nil))) (q_cons rfl (q_var 2 rfl (by first | exact Or.inl rfl | exact Or.inr (Or.inl rfl) | exact Or.inr (Or.inr rfl)) rfl rfl) a_nil))) (d_gloT rfl g_ZERO))))
abbrev N__bent_value : List Str := [Str.ofString "knots", Str.ofString "lower", Str.ofString "place", Str.ofString "rising", Str.ofString "falling"]
theorem sc__bent_value : FnScope N__bent_value [Str.ofString "knots", Str.ofString "lower", Str.ofString "place"] (defScope s__bent_value) := ⟨rfl, rfl, rfl, by decide +kernel, rfl, by decide +kernel, by decide +kernel⟩
def b__bent_value : SM :=
    (sSeq (sSet 3 (eOwn m__part (aLen 3 (aCons (eBin subI (eVar 2) (eIx (eVar 0) (eC (.int 0)))) (aCons (eBin subI (eIx (eVar 0) (eUn negI (eC (.int 2)))) (eIx (eVar 0) (eC (.int 0)))) (aCons (eIx (eVar 1) (eC (.int 0))) aNil))))))
    (sSeq (sSet 4 (eOwn m__part (aLen 3 (aCons (eBin subI (eIx (eVar 0) (eUn negI (eC (.int 1)))) (eVar 2)) (aCons (eBin subI (eIx (eVar 0) (eUn negI (eC (.int 1)))) (eIx (eVar 0) (eC (.int 1)))) (aCons (eIx (eVar 1) (eC (.int 1))) aNil))))))
    (sRet (eOwn m_plus (aLen 2 (aCons (eVar 3) (aCons (eVar 4) aNil)))))))
def m__bent_value : FM := fnM 5 (b__bent_value)
theorem c__bent_value (D : DefM G mg "_bent_value" s__bent_value [Str.ofString "knots", Str.ofString "lower", Str.ofString "place"]) (c__part : CalM false P w G mg base 3 "_part" s__part [Str.ofString "top", Str.ofString "bottom", Str.ofString "worth"] (m__part)) (c_plus : CalM false P w G mg base 2 "plus" s_plus [Str.ofString "one", Str.ofString "other"] (m_plus)) : CalM false P w G mg base 4 "_bent_value" s__bent_value [Str.ofString "knots", Str.ofString "lower", Str.ofString "place"] (m__bent_value) :=
  calM_of (k := 3) D sc__bent_value (fun _ _ => rfl) fun f cdv A outer s H E fx => have hN := sc__bent_value.nd
    (z_cons (s_set (i := 3) (q_set 3 hN rfl (by first | exact Or.inl rfl | exact Or.inr rfl) rfl (by first | exact Or.inl rfl | exact Or.inr rfl) (q_call rfl fx c__part (by decide) (by omega) rfl rfl rfl rfl (q_cons rfl (x_sub fx (q_var 2 rfl (by first | exact Or.inl rfl | exact Or.inr (Or.inl rfl) | exact Or.inr (Or.inr rfl)) rfl rfl) (x_ix fx (q_var 0 rfl (by first | exact Or.inl rfl | exact Or.inr (Or.inl rfl) | exact Or.inr (Or.inr rfl)) rfl rfl) d_int (fun _ _ => rfl))) (q_cons rfl (x_sub fx (x_ix fx (q_var 0 rfl (by first | exact Or.inl rfl | exact Or.inr (Or.inl rfl) | exact Or.inr (Or.inr rfl)) rfl rfl) (d_neg d_int) (fun _ _ => rfl)) (x_ix fx (q_var 0 rfl (by first | exact Or.inl rfl | exact Or.inr (Or.inl rfl) | exact Or.inr (Or.inr rfl)) rfl rfl) d_int (fun _ _ => rfl))) (q_cons rfl (x_ix fx (q_var 1 rfl (by first | exact Or.inl rfl | exact Or.inr (Or.inl rfl) | exact Or.inr (Or.inr rfl)) rfl rfl) d_int (fun _ _ => rfl)) a_nil))))))
    (z_cons (s_set (i := 4) (q_set 4 hN rfl (by first | exact Or.inl rfl | exact Or.inr rfl) rfl (by first | exact Or.inl rfl | exact Or.inr rfl) (q_call rfl fx c__part (by decide) (by omega) rfl rfl rfl rfl (q_cons rfl (x_sub fx (x_ix fx (q_var 0 rfl (by first | exact Or.inl rfl | exact Or.inr (Or.inl rfl) | exact Or.inr (Or.inr rfl)) rfl rfl) (d_neg d_int) (fun _ _ => rfl)) (q_var 2 rfl (by first | exact Or.inl rfl | exact Or.inr (Or.inl rfl) | exact Or.inr (Or.inr rfl)) rfl rfl)) (q_cons rfl (x_sub fx (x_ix fx (q_var 0 rfl (by first | exact Or.inl rfl | exact Or.inr (Or.inl rfl) | exact Or.inr (Or.inr rfl)) rfl rfl) (d_neg d_int) (fun _ _ => rfl)) (x_ix fx (q_var 0 rfl (by first | exact Or.inl rfl | exact Or.inr (Or.inl rfl) | exact Or.inr (Or.inr rfl)) rfl rfl) d_int (fun _ _ => rfl))) (q_cons rfl (x_ix fx (q_var 1 rfl (by first | exact Or.inl rfl | exact Or.inr (Or.inl rfl) | exact Or.inr (Or.inr rfl)) rfl rfl) d_int (fun _ _ => rfl)) a_nil))))))
    (z_one (s_ret (q_call rfl fx c_plus (by decide) (by omega) rfl rfl rfl rfl (q_cons rfl (q_var 3 rfl (by first | exact Or.inl rfl | exact Or.inr (Or.inl rfl) | exact Or.inr (Or.inr rfl)) rfl rfl) (q_cons rfl (q_var 4 rfl (by first | exact Or.inl rfl | exact Or.inr (Or.inl rfl) | exact Or.inr (Or.inr rfl)) rfl rfl) a_nil)))))))
abbrev N__values_over : List Str := [Str.ofString "degree", Str.ofString "knots", Str.ofString "place", Str.ofString "found", Str.ofString "width", Str.ofString "index", Str.ofString "at"]
theorem sc__values_over : FnScope N__values_over [Str.ofString "degree", Str.ofString "knots", Str.ofString "place"] (defScope s__values_over) := ⟨rfl, rfl, rfl, by decide +kernel, rfl, by decide +kernel, by decide +kernel⟩
def b__values_over : SM :=
    (sSeq (sSet 3 (eLcR rng1 (aCons (eBin subI (eCall (m1 lenD) (aCons (eVar 1) aNil)) (eC (.int 1))) aNil) (fun d rho => some (rho.set 5 (.va d))) [5] bYes (eOwn m__flat_value (aLen 3 (aCons (eVar 1) (aCons (eVar 5) (aCons (eVar 2) aNil)))))))
    (sSeq (sForR rng2 (aCons (eC (.int 2)) (aCons (eBin addA (eVar 0) (eC (.int 2))) aNil)) (sBody (fun d rho => some (rho.set 4 (.va d))) (sSet 3 (eLcR rng1 (aCons (eBin subI (eCall (m1 lenD) (aCons (eVar 3) aNil)) (eC (.int 1))) aNil) (fun d rho => some (rho.set 6 (.va d))) [6] bYes (eOwn m__bent_value (aLen 3 (aCons (eSl (eVar 1) (oSome (eVar 6)) (oSome (eBin addA (eBin addA (eVar 6) (eVar 4)) (eC (.int 1))))) (aCons (eSl (eVar 3) (oSome (eVar 6)) (oSome (eBin addA (eVar 6) (eC (.int 2))))) (aCons (eVar 2) aNil)))))))))
    (sRet (eVar 3))))
def m__values_over : FM := fnM 7 (b__values_over)
theorem c__values_over (D : DefM G mg "_values_over" s__values_over [Str.ofString "degree", Str.ofString "knots", Str.ofString "place"]) (n_len : mg "len" = none) (n_range : mg "range" = none) (c__flat_value : CalM false P w G mg base 1 "_flat_value" s__flat_value [Str.ofString "knots", Str.ofString "index", Str.ofString "place"] (m__flat_value)) (c__bent_value : CalM false P w G mg base 4 "_bent_value" s__bent_value [Str.ofString "knots", Str.ofString "lower", Str.ofString "place"] (m__bent_value)) : CalM false P w G mg base 5 "_values_over" s__values_over [Str.ofString "degree", Str.ofString "knots", Str.ofString "place"] (m__values_over) :=
  calM_of (k := 4) D sc__values_over (fun _ _ => rfl) fun f cdv A outer s H E fx => have hN := sc__values_over.nd
    (z_cons (s_set (i := 3) (q_set 3 hN rfl (by first | exact Or.inl rfl | exact Or.inr rfl) rfl (by first | exact Or.inl rfl | exact Or.inr rfl) (q_lcR1 [(Str.ofString "index", 5)] fx hN rfl n_range rfl (fun _ => rfl) (by kernel_rfl) (q_cons rfl (x_sub fx (q_bi fx (bi_len fx.toFx0 n_len) rfl (by decide) rfl rfl rfl (q_cons rfl (q_var 1 rfl (by first | exact Or.inl rfl | exact Or.inr (Or.inl rfl) | exact Or.inr (Or.inr rfl)) rfl rfl) a_nil)) d_int) a_nil) (fun s H C cl fp fy => (q_name 5 hN rfl (by first | exact Or.inl rfl | exact Or.inr rfl) (by first | exact Or.inl rfl | exact Or.inr rfl))) (tl_name (by decide)) (fun s H C cl fp fy => ts_nil) (fun s H C cl fp fy => (q_call rfl fy c__flat_value (by decide) (by omega) rfl rfl rfl rfl (q_cons rfl (q_var 1 rfl (by first | exact Or.inl rfl | exact Or.inr (Or.inl rfl) | exact Or.inr (Or.inr rfl)) rfl rfl) (q_cons rfl (q_var 5 rfl (by first | exact Or.inl rfl | exact Or.inr (Or.inl rfl) | exact Or.inr (Or.inr rfl)) rfl rfl) (q_cons rfl (q_var 2 rfl (by first | exact Or.inl rfl | exact Or.inr (Or.inl rfl) | exact Or.inr (Or.inr rfl)) rfl rfl) a_nil))))))))
    (z_cons (q_forR2 fx rfl n_range rfl rfl (fun _ => rfl) (q_cons rfl d_int (q_cons rfl (x_add fx (q_var 0 rfl (by first | exact Or.inl rfl | exact Or.inr (Or.inl rfl) | exact Or.inr (Or.inr rfl)) rfl rfl) d_int) a_nil)) (q_name 4 hN rfl (by first | exact Or.inl rfl | exact Or.inr rfl) (by first | exact Or.inl rfl | exact Or.inr rfl)) tg_name (z_one (s_set (i := 3) (q_set 3 hN rfl (by first | exact Or.inl rfl | exact Or.inr rfl) rfl (by first | exact Or.inl rfl | exact Or.inr rfl) (q_lcR1 [(Str.ofString "at", 6)] fx hN rfl n_range rfl (fun _ => rfl) (by kernel_rfl) (q_cons rfl (x_sub fx (q_bi fx (bi_len fx.toFx0 n_len) rfl (by decide) rfl rfl rfl (q_cons rfl (q_var 3 rfl (by first | exact Or.inl rfl | exact Or.inr (Or.inl rfl) | exact Or.inr (Or.inr rfl)) rfl rfl) a_nil)) d_int) a_nil) (fun s H C cl fp fy => (q_name 6 hN rfl (by first | exact Or.inl rfl | exact Or.inr rfl) (by first | exact Or.inl rfl | exact Or.inr rfl))) (tl_name (by decide)) (fun s H C cl fp fy => ts_nil) (fun s H C cl fp fy => (q_call rfl fy c__bent_value (by decide) (by omega) rfl rfl rfl rfl (q_cons rfl (d_sl fy.hK (q_var 1 rfl (by first | exact Or.inl rfl | exact Or.inr (Or.inl rfl) | exact Or.inr (Or.inr rfl)) rfl rfl) (o_some (q_var 6 rfl (by first | exact Or.inl rfl | exact Or.inr (Or.inl rfl) | exact Or.inr (Or.inr rfl)) rfl rfl)) (o_some (x_add fy (x_add fy (q_var 6 rfl (by first | exact Or.inl rfl | exact Or.inr (Or.inl rfl) | exact Or.inr (Or.inr rfl)) rfl rfl) (q_var 4 rfl (by first | exact Or.inl rfl | exact Or.inr (Or.inl rfl) | exact Or.inr (Or.inr rfl)) rfl rfl)) d_int))) (q_cons rfl (d_sl fy.hK (q_var 3 rfl (by first | exact Or.inl rfl | exact Or.inr (Or.inl rfl) | exact Or.inr (Or.inr rfl)) rfl rfl) (o_some (q_var 6 rfl (by first | exact Or.inl rfl | exact Or.inr (Or.inl rfl) | exact Or.inr (Or.inr rfl)) rfl rfl)) (o_some (x_add fy (q_var 6 rfl (by first | exact Or.inl rfl | exact Or.inr (Or.inl rfl) | exact Or.inr (Or.inr rfl)) rfl rfl) d_int))) (q_cons rfl (q_var 2 rfl (by first | exact Or.inl rfl | exact Or.inr (Or.inl rfl) | exact Or.inr (Or.inr rfl)) rfl rfl) a_nil))))))))))
    (z_one (s_ret (q_var 3 rfl (by first | exact Or.inl rfl | exact Or.inr (Or.inl rfl) | exact Or.inr (Or.inr rfl)) rfl rfl)))))
abbrev N_Frame_degree : List Str := [Str.ofString "self"]
theorem sc_Frame_degree : FnScope N_Frame_degree [Str.ofString "self"] (defScope s_Frame_degree) := ⟨rfl, rfl, rfl, by decide +kernel, rfl, by decide +kernel, by decide +kernel⟩
def b_Frame_degree : SM :=
    (sRet (eUn (fldD (fun c => if c = 0 then some 0 else none)) (eVar 0)))
def m_Frame_degree : FM := fnM 1 (b_Frame_degree)
theorem p_Frame_degree {f p : Addr} (Cc : Cls G.K (G.ca 0)) (hp : PropOf G.K (G.ca 0) "degree" p f) (D : MetM G 0 "degree" "Frame.degree" s_Frame_degree f [Str.ofString "self"]) (fn_Frame : G.fn 0 = [Str.ofString "_degree", Str.ofString "_knots"]) (ck_Frame : ClOk G 0) : ProM P w G mg base 1 0 "degree" (m_Frame_degree) :=
  proM_of (k := 0) Cc hp D sc_Frame_degree rfl (fun _ _ => rfl) fun f cdv A outer s H E fx => have hN := sc_Frame_degree.nd
    (z_one (s_ret (q_fld fx (fld1 ck_Frame (by rw [fn_Frame]; rfl)) rfl (q_var 0 rfl (by first | exact Or.inl rfl | exact Or.inr (Or.inl rfl) | exact Or.inr (Or.inr rfl)) rfl rfl))))
abbrev N_Frame_knots : List Str := [Str.ofString "self"]
theorem sc_Frame_knots : FnScope N_Frame_knots [Str.ofString "self"] (defScope s_Frame_knots) := ⟨rfl, rfl, rfl, by decide +kernel, rfl, by decide +kernel, by decide +kernel⟩
def b_Frame_knots : SM :=
    (sRet (eUn (fldD (fun c => if c = 0 then some 1 else none)) (eVar 0)))
def m_Frame_knots : FM := fnM 1 (b_Frame_knots)
theorem p_Frame_knots {f p : Addr} (Cc : Cls G.K (G.ca 0)) (hp : PropOf G.K (G.ca 0) "knots" p f) (D : MetM G 0 "knots" "Frame.knots" s_Frame_knots f [Str.ofString "self"]) (fn_Frame : G.fn 0 = [Str.ofString "_degree", Str.ofString "_knots"]) (ck_Frame : ClOk G 0) : ProM P w G mg base 1 0 "knots" (m_Frame_knots) :=
  proM_of (k := 0) Cc hp D sc_Frame_knots rfl (fun _ _ => rfl) fun f cdv A outer s H E fx => have hN := sc_Frame_knots.nd
    (z_one (s_ret (q_fld fx (fld1 ck_Frame (by rw [fn_Frame]; rfl)) rfl (q_var 0 rfl (by first | exact Or.inl rfl | exact Or.inr (Or.inl rfl) | exact Or.inr (Or.inr rfl)) rfl rfl))))
abbrev N_values_at : List Str := [Str.ofString "frame", Str.ofString "place"]
theorem sc_values_at : FnScope N_values_at [Str.ofString "frame", Str.ofString "place"] (defScope s_values_at) := ⟨rfl, rfl, rfl, by decide +kernel, rfl, by decide +kernel, by decide +kernel⟩
def b_values_at : SM :=
    (sRet (eOwn m__values_over (aLen 3 (aCons (eProp 0 m_Frame_degree (eVar 0)) (aCons (eProp 0 m_Frame_knots (eVar 0)) (aCons (eVar 1) aNil))))))
def m_values_at : FM := fnM 2 (b_values_at)
theorem c_values_at (D : DefM G mg "values_at" s_values_at [Str.ofString "frame", Str.ofString "place"]) (p_Frame_degree : ProM P w G mg base 1 0 "degree" (m_Frame_degree)) (p_Frame_knots : ProM P w G mg base 1 0 "knots" (m_Frame_knots)) (c__values_over : CalM false P w G mg base 5 "_values_over" s__values_over [Str.ofString "degree", Str.ofString "knots", Str.ofString "place"] (m__values_over)) : CalM false P w G mg base 6 "values_at" s_values_at [Str.ofString "frame", Str.ofString "place"] (m_values_at) :=
  calM_of (k := 5) D sc_values_at (fun _ _ => rfl) fun f cdv A outer s H E fx => have hN := sc_values_at.nd
    (z_one (s_ret (q_call rfl fx c__values_over (by decide) (by omega) rfl rfl rfl rfl (q_cons rfl (q_prop fx p_Frame_degree (by decide) rfl (q_var 0 rfl (by first | exact Or.inl rfl | exact Or.inr (Or.inl rfl) | exact Or.inr (Or.inr rfl)) rfl rfl)) (q_cons rfl (q_prop fx p_Frame_knots (by decide) rfl (q_var 0 rfl (by first | exact Or.inl rfl | exact Or.inr (Or.inl rfl) | exact Or.inr (Or.inr rfl)) rfl rfl)) (q_cons rfl (q_var 1 rfl (by first | exact Or.inl rfl | exact Or.inr (Or.inl rfl) | exact Or.inr (Or.inr rfl)) rfl rfl) a_nil))))))
abbrev N_Curve_value : List Str := [Str.ofString "self", Str.ofString "place"]
theorem sc_Curve_value : FnScope N_Curve_value [Str.ofString "self", Str.ofString "place"] (defScope s_Curve_value) := ⟨rfl, rfl, rfl, by decide +kernel, rfl, by decide +kernel, by decide +kernel⟩
def b_Curve_value : SM :=
    (sSeq (sDrop (eOwn m_check_place (aLen 1 (aCons (eVar 1) aNil))))
    (sRet (eOwn m_sum_of_products (aLen 2 (aCons (eUn (fldD (fun c => if c = 1 then some 1 else none)) (eVar 0)) (aCons (eOwn m_values_at (aLen 2 (aCons (eUn (fldD (fun c => if c = 1 then some 0 else none)) (eVar 0)) (aCons (eVar 1) aNil)))) aNil))))))
def m_Curve_value : FM := fnM 2 (b_Curve_value)
theorem t_Curve_value {f : Addr} (Cc : Cls G.K (G.ca 1)) (hm : Meth G.K (G.ca 1) "value" f) (D : MetM G 1 "value" "Curve.value" s_Curve_value f [Str.ofString "self", Str.ofString "place"]) (fn_Curve : G.fn 1 = [Str.ofString "_frame", Str.ofString "_amounts"]) (ck_Curve : ClOk G 1) (c_check_place : CalM false P w G mg base 3 "check_place" s_check_place [Str.ofString "place"] (m_check_place)) (c_values_at : CalM false P w G mg base 6 "values_at" s_values_at [Str.ofString "frame", Str.ofString "place"] (m_values_at)) (c_sum_of_products : CalM false P w G mg base 3 "sum_of_products" s_sum_of_products [Str.ofString "ones", Str.ofString "others"] (m_sum_of_products)) : MthF P w G mg base 7 1 "value" "Curve.value" s_Curve_value [Str.ofString "self", Str.ofString "place"] (m_Curve_value) :=
  mthF_of (k := 6) Cc hm D sc_Curve_value (fun _ _ => rfl) fun f cdv A outer s H E fx => have hN := sc_Curve_value.nd
    (z_cons (s_drop (ps_expr (q_call rfl fx c_check_place (by decide) (by omega) rfl rfl rfl rfl (q_cons rfl (q_var 1 rfl (by first | exact Or.inl rfl | exact Or.inr (Or.inl rfl) | exact Or.inr (Or.inr rfl)) rfl rfl) a_nil))))
    (z_one (s_ret (q_call rfl fx c_sum_of_products (by decide) (by omega) rfl rfl rfl rfl (q_cons rfl (q_fld fx (fld1 ck_Curve (by rw [fn_Curve]; rfl)) rfl (q_var 0 rfl (by first | exact Or.inl rfl | exact Or.inr (Or.inl rfl) | exact Or.inr (Or.inr rfl)) rfl rfl)) (q_cons rfl (q_call rfl fx c_values_at (by decide) (by omega) rfl rfl rfl rfl (q_cons rfl (q_fld fx (fld1 ck_Curve (by rw [fn_Curve]; rfl)) rfl (q_var 0 rfl (by first | exact Or.inl rfl | exact Or.inr (Or.inl rfl) | exact Or.inr (Or.inr rfl)) rfl rfl)) (q_cons rfl (q_var 1 rfl (by first | exact Or.inl rfl | exact Or.inr (Or.inl rfl) | exact Or.inr (Or.inr rfl)) rfl rfl) a_nil))) a_nil))))))
abbrev N__law_sip : List Str := [Str.ofString "_law_mug_here", Str.ofString "_law_top", Str.ofString "_law_digit"]
theorem sc__law_sip : FnScope N__law_sip [Str.ofString "_law_mug_here", Str.ofString "_law_top"] (defScope s__law_sip) := ⟨rfl, rfl, rfl, by decide +kernel, rfl, by decide +kernel, by decide +kernel⟩
def b__law_sip : SM :=
    (sSeq (sMug (eBin addA (eIx (eVar 0) (eC (.int 2))) (eC (.int 1))) (eVar 0) (eC (.int 2)))
    (sSeq (sIf (bOf (eBin gtM (eIx (eVar 0) (eC (.int 0))) (eC (.int 0)))) (sSeq (sSet 2 (eBin modA (eCall (m1 intM) (aCons (eIx (eVar 0) (eC (.int 0))) aNil)) (eVar 1)))
    (sSeq (sMug (eBin divA (eCall (m1 intM) (aCons (eIx (eVar 0) (eC (.int 0))) aNil)) (eVar 1)) (eVar 0) (eC (.int 0)))
    (sRet (eVar 2)))) sNil)
    (sSeq (sMug (eBin modA (eCall (m1 intM) (aCons (eBin addA (eBin addA (eBin mulA (eIx (eVar 0) (eC (.int 1))) (eC (.int 39373))) (eBin mulA (eC (.int 2003)) (eIx (eVar 0) (eC (.int 2))))) (eC (.int 31))) aNil)) (eC (.int 2147483563))) (eVar 0) (eC (.int 1)))
    (sRet (eBin modA (eCall (m1 intM) (aCons (eBin divA (eIx (eVar 0) (eC (.int 1))) (eC (.int 128))) aNil)) (eVar 1))))))
def m__law_sip : FM := fnM 3 (b__law_sip)
theorem c__law_sip (D : DefM G mg "_law_sip" s__law_sip [Str.ofString "_law_mug_here", Str.ofString "_law_top"]) (n_int : mg "int" = none) : CalM false P w G mg base 1 "_law_sip" s__law_sip [Str.ofString "_law_mug_here", Str.ofString "_law_top"] (m__law_sip) :=
  calM_of (k := 0) D sc__law_sip (fun _ _ => rfl) fun f cdv A outer s H E fx => have hN := sc__law_sip.nd
    (z_cons (s_mug (q_asg rfl rfl rfl (x_add fx (x_ix fx (q_var 0 rfl (by first | exact Or.inl rfl | exact Or.inr (Or.inl rfl) | exact Or.inr (Or.inr rfl)) rfl rfl) d_int (fun _ _ => rfl)) d_int) (q_sub set_list (fun _ => rfl) (q_var 0 rfl (by first | exact Or.inl rfl | exact Or.inr (Or.inl rfl) | exact Or.inr (Or.inr rfl)) rfl rfl) d_int)))
    (z_cons (s_if (y_cmp fx cp_gt (x_ix fx (q_var 0 rfl (by first | exact Or.inl rfl | exact Or.inr (Or.inl rfl) | exact Or.inr (Or.inr rfl)) rfl rfl) d_int (fun _ _ => rfl)) d_int (nomark _)) (z_cons (s_set (i := 2) (q_set 2 hN rfl (by first | exact Or.inl rfl | exact Or.inr rfl) rfl (by first | exact Or.inl rfl | exact Or.inr rfl) (x_mod fx (q_bi fx (bi_int fx.toFx0 n_int) rfl (by decide) rfl rfl rfl (q_cons rfl (x_ix fx (q_var 0 rfl (by first | exact Or.inl rfl | exact Or.inr (Or.inl rfl) | exact Or.inr (Or.inr rfl)) rfl rfl) d_int (fun _ _ => rfl)) a_nil)) (q_var 1 rfl (by first | exact Or.inl rfl | exact Or.inr (Or.inl rfl) | exact Or.inr (Or.inr rfl)) rfl rfl))))
    (z_cons (s_mug (q_asg rfl rfl rfl (x_div fx (q_bi fx (bi_int fx.toFx0 n_int) rfl (by decide) rfl rfl rfl (q_cons rfl (x_ix fx (q_var 0 rfl (by first | exact Or.inl rfl | exact Or.inr (Or.inl rfl) | exact Or.inr (Or.inr rfl)) rfl rfl) d_int (fun _ _ => rfl)) a_nil)) (q_var 1 rfl (by first | exact Or.inl rfl | exact Or.inr (Or.inl rfl) | exact Or.inr (Or.inr rfl)) rfl rfl)) (q_sub set_list (fun _ => rfl) (q_var 0 rfl (by first | exact Or.inl rfl | exact Or.inr (Or.inl rfl) | exact Or.inr (Or.inr rfl)) rfl rfl) d_int)))
    (z_one (s_ret (q_var 2 rfl (by first | exact Or.inl rfl | exact Or.inr (Or.inl rfl) | exact Or.inr (Or.inr rfl)) rfl rfl))))) z_nil)
    (z_cons (s_mug (q_asg rfl rfl rfl (x_mod fx (q_bi fx (bi_int fx.toFx0 n_int) rfl (by decide) rfl rfl rfl (q_cons rfl (x_add fx (x_add fx (x_mul fx (x_ix fx (q_var 0 rfl (by first | exact Or.inl rfl | exact Or.inr (Or.inl rfl) | exact Or.inr (Or.inr rfl)) rfl rfl) d_int (fun _ _ => rfl)) d_int) (x_mul fx d_int (x_ix fx (q_var 0 rfl (by first | exact Or.inl rfl | exact Or.inr (Or.inl rfl) | exact Or.inr (Or.inr rfl)) rfl rfl) d_int (fun _ _ => rfl)))) d_int) a_nil)) d_int) (q_sub set_list (fun _ => rfl) (q_var 0 rfl (by first | exact Or.inl rfl | exact Or.inr (Or.inl rfl) | exact Or.inr (Or.inr rfl)) rfl rfl) d_int)))
    (z_one (s_ret (x_mod fx (q_bi fx (bi_int fx.toFx0 n_int) rfl (by decide) rfl rfl rfl (q_cons rfl (x_div fx (x_ix fx (q_var 0 rfl (by first | exact Or.inl rfl | exact Or.inr (Or.inl rfl) | exact Or.inr (Or.inr rfl)) rfl rfl) d_int (fun _ _ => rfl)) d_int) a_nil)) (q_var 1 rfl (by first | exact Or.inl rfl | exact Or.inr (Or.inl rfl) | exact Or.inr (Or.inr rfl)) rfl rfl)))))))
abbrev N__law_pick : List Str := [Str.ofString "_law_mug_here", Str.ofString "_law_menu"]
theorem sc__law_pick : FnScope N__law_pick [Str.ofString "_law_mug_here", Str.ofString "_law_menu"] (defScope s__law_pick) := ⟨rfl, rfl, rfl, by decide +kernel, rfl, by decide +kernel, by decide +kernel⟩
def b__law_pick : SM :=
    (sRet (eIx (eVar 1) (eOwn m__law_sip (aLen 2 (aCons (eVar 0) (aCons (eCall (m1 lenD) (aCons (eVar 1) aNil)) aNil))))))
def m__law_pick : FM := fnM 2 (b__law_pick)
theorem c__law_pick (D : DefM G mg "_law_pick" s__law_pick [Str.ofString "_law_mug_here", Str.ofString "_law_menu"]) (n_len : mg "len" = none) (c__law_sip : CalM false P w G mg base 1 "_law_sip" s__law_sip [Str.ofString "_law_mug_here", Str.ofString "_law_top"] (m__law_sip)) : CalM false P w G mg base 2 "_law_pick" s__law_pick [Str.ofString "_law_mug_here", Str.ofString "_law_menu"] (m__law_pick) :=
  calM_of (k := 1) D sc__law_pick (fun _ _ => rfl) fun f cdv A outer s H E fx => have hN := sc__law_pick.nd
    (z_one (s_ret (x_ix fx (q_var 1 rfl (by first | exact Or.inl rfl | exact Or.inr (Or.inl rfl) | exact Or.inr (Or.inr rfl)) rfl rfl) (q_call rfl fx c__law_sip (by decide) (by omega) rfl rfl rfl rfl (q_cons rfl (q_var 0 rfl (by first | exact Or.inl rfl | exact Or.inr (Or.inl rfl) | exact Or.inr (Or.inr rfl)) rfl rfl) (q_cons rfl (q_bi fx (bi_len fx.toFx0 n_len) rfl (by decide) rfl rfl rfl (q_cons rfl (q_var 1 rfl (by first | exact Or.inl rfl | exact Or.inr (Or.inl rfl) | exact Or.inr (Or.inr rfl)) rfl rfl) a_nil)) a_nil))) (fun _ _ => rfl))))
abbrev N__law_draft : List Str := [Str.ofString "_law_mug_here", Str.ofString "_law_most_hills", Str.ofString "_law_most", Str.ofString "_law_grade", Str.ofString "_law_many", Str.ofString "_law_k", Str.ofString "_law_bolts", Str.ofString "_law_bolt"]
theorem sc__law_draft : FnScope N__law_draft [Str.ofString "_law_mug_here", Str.ofString "_law_most_hills", Str.ofString "_law_most"] (defScope s__law_draft) := ⟨rfl, rfl, rfl, by decide +kernel, rfl, by decide +kernel, by decide +kernel⟩
def b__law_draft (fuel : Nat) : SM :=
    (sSeq (sPut (putS [3, 4]) (eCall mTup (aCons (eOwn m__law_pick (aLen 2 (aCons (eVar 0) (aCons (eCall mLst (aCons (eC (.int 0)) (aCons (eC (.int 1)) (aCons (eC (.int 1)) (aCons (eC (.int 2)) (aCons (eC (.int 2)) (aCons (eC (.int 3)) (aCons (eC (.int 4)) aNil)))))))) aNil)))) (aCons (eBin addA (eC (.int 1)) (eOwn m__law_sip (aLen 2 (aCons (eVar 0) (aCons (eVar 1) aNil))))) aNil))))
    (sSeq (sSet 6 (eCall (m1 sortM) (aCons (eLcR rng1 (aCons (eBin addA (eBin addA (eVar 4) (eVar 3)) (eC (.int 1))) aNil) (fun d rho => some (rho.set 5 (.va d))) [5] bYes (eOwn m__law_sip (aLen 2 (aCons (eVar 0) (aCons (eBin addA (eVar 2) (eC (.int 1))) aNil))))) aNil)))
    (sSeq (sIf (bAnd (bOf (eBin eqM (eOwn m__law_sip (aLen 2 (aCons (eVar 0) (aCons (eC (.int 3)) aNil)))) (eC (.int 0)))) (bOf (eBin gtM (eVar 4) (eVar 3)))) (sSet 6 (eBin addA (eBin addA (eBin mulA (eCall mLst (aCons (eIx (eVar 6) (eC (.int 0))) aNil)) (eBin addA (eVar 3) (eC (.int 1)))) (eSl (eVar 6) (oSome (eBin addA (eVar 3) (eC (.int 1)))) (oSome (eVar 4)))) (eBin mulA (eCall mLst (aCons (eIx (eVar 6) (eUn negI (eC (.int 1)))) aNil)) (eBin addA (eVar 3) (eC (.int 1)))))) sNil)
    (sSeq (whileN (bOf (eBin neM (eLcR rng1 (aCons (eBin subI (eBin subI (eCall (m1 lenD) (aCons (eVar 6) aNil)) (eVar 3)) (eC (.int 1))) aNil) (fun d rho => some (rho.set 5 (.va d))) [5] (bOf (eBin eqM (eIx (eVar 6) (eVar 5)) (eIx (eVar 6) (eBin addA (eBin addA (eVar 5) (eVar 3)) (eC (.int 1)))))) (eVar 5)) (eCall mLst aNil))) (sSeq (sSet 5 (eIx (eLcR rng1 (aCons (eBin subI (eBin subI (eCall (m1 lenD) (aCons (eVar 6) aNil)) (eVar 3)) (eC (.int 1))) aNil) (fun d rho => some (rho.set 5 (.va d))) [5] (bOf (eBin eqM (eIx (eVar 6) (eVar 5)) (eIx (eVar 6) (eBin addA (eBin addA (eVar 5) (eVar 3)) (eC (.int 1)))))) (eVar 5)) (eC (.int 0))))
    (sSet 6 (eBin addA (eSl (eVar 6) oNone (oSome (eBin addA (eBin addA (eVar 5) (eVar 3)) (eC (.int 1))))) (eLc anyD (eSl (eVar 6) (oSome (eBin addA (eBin addA (eVar 5) (eVar 3)) (eC (.int 1)))) oNone) (fun d rho => some (rho.set 7 (.va d))) [7] bYes (eBin addA (eVar 7) (eC (.int 1))))))) fuel)
    (sRet (eCall mLst (aCons (eVar 3) (aCons (eCall (m1 tupM) (aCons (eVar 6) aNil)) aNil))))))))
def m__law_draft (fuel : Nat) : FM := fnM 8 (b__law_draft fuel)
theorem c__law_draft (fuel : Nat) (D : DefM G mg "_law_draft" s__law_draft [Str.ofString "_law_mug_here", Str.ofString "_law_most_hills", Str.ofString "_law_most"]) (n_len : mg "len" = none) (n_range : mg "range" = none) (n_sorted : mg "sorted" = none) (n_tuple : mg "tuple" = none) (c__law_pick : CalM false P w G mg base 2 "_law_pick" s__law_pick [Str.ofString "_law_mug_here", Str.ofString "_law_menu"] (m__law_pick)) (c__law_sip : CalM false P w G mg base 1 "_law_sip" s__law_sip [Str.ofString "_law_mug_here", Str.ofString "_law_top"] (m__law_sip)) : CalM false P w G mg base 3 "_law_draft" s__law_draft [Str.ofString "_law_mug_here", Str.ofString "_law_most_hills", Str.ofString "_law_most"] (m__law_draft fuel) :=
  calM_of (k := 2) D sc__law_draft (fun _ _ => rfl) fun f cdv A outer s H E fx => have hN := sc__law_draft.nd
    (z_cons (q_unp [3, 4] rfl fx rfl rfl rfl rfl rfl (d_tup (q_cons rfl (q_call rfl fx c__law_pick (by decide) (by omega) rfl rfl rfl rfl (q_cons rfl (q_var 0 rfl (by first | exact Or.inl rfl | exact Or.inr (Or.inl rfl) | exact Or.inr (Or.inr rfl)) rfl rfl) (q_cons rfl (d_lst (q_cons rfl d_int (q_cons rfl d_int (q_cons rfl d_int (q_cons rfl d_int (q_cons rfl d_int (q_cons rfl d_int (q_cons rfl d_int a_nil)))))))) a_nil))) (q_cons rfl (x_add fx d_int (q_call rfl fx c__law_sip (by decide) (by omega) rfl rfl rfl rfl (q_cons rfl (q_var 0 rfl (by first | exact Or.inl rfl | exact Or.inr (Or.inl rfl) | exact Or.inr (Or.inr rfl)) rfl rfl) (q_cons rfl (q_var 1 rfl (by first | exact Or.inl rfl | exact Or.inr (Or.inl rfl) | exact Or.inr (Or.inr rfl)) rfl rfl) a_nil)))) a_nil))) (q_gcons rfl (q_name 3 hN rfl (by first | exact Or.inl rfl | exact Or.inr rfl) (by first | exact Or.inl rfl | exact Or.inr rfl)) (q_gcons rfl (q_name 4 hN rfl (by first | exact Or.inl rfl | exact Or.inr rfl) (by first | exact Or.inl rfl | exact Or.inr rfl)) pgs_nil)))
    (z_cons (s_set (i := 6) (q_set 6 hN rfl (by first | exact Or.inl rfl | exact Or.inr rfl) rfl (by first | exact Or.inl rfl | exact Or.inr rfl) (q_bi fx (bi_sorted fx.toFx0 n_sorted) rfl (by decide) rfl rfl rfl (q_cons rfl (q_lcR1 [(Str.ofString "_law_k", 5)] fx hN rfl n_range rfl (fun _ => rfl) (by kernel_rfl) (q_cons rfl (x_add fx (x_add fx (q_var 4 rfl (by first | exact Or.inl rfl | exact Or.inr (Or.inl rfl) | exact Or.inr (Or.inr rfl)) rfl rfl) (q_var 3 rfl (by first | exact Or.inl rfl | exact Or.inr (Or.inl rfl) | exact Or.inr (Or.inr rfl)) rfl rfl)) d_int) a_nil) (fun s H C cl fp fy => (q_name 5 hN rfl (by first | exact Or.inl rfl | exact Or.inr rfl) (by first | exact Or.inl rfl | exact Or.inr rfl))) (tl_name (by decide)) (fun s H C cl fp fy => ts_nil) (fun s H C cl fp fy => (q_call rfl fy c__law_sip (by decide) (by omega) rfl rfl rfl rfl (q_cons rfl (q_var 0 rfl (by first | exact Or.inl rfl | exact Or.inr (Or.inl rfl) | exact Or.inr (Or.inr rfl)) rfl rfl) (q_cons rfl (x_add fy (q_var 2 rfl (by first | exact Or.inl rfl | exact Or.inr (Or.inl rfl) | exact Or.inr (Or.inr rfl)) rfl rfl) d_int) a_nil))))) a_nil))))
    (z_cons (s_if (PW.pt (w_and (y_cmp fx (cp_eq fx) (q_call rfl fx c__law_sip (by decide) (by omega) rfl rfl rfl rfl (q_cons rfl (q_var 0 rfl (by first | exact Or.inl rfl | exact Or.inr (Or.inl rfl) | exact Or.inr (Or.inr rfl)) rfl rfl) (q_cons rfl d_int a_nil))) d_int (nomark _)) (w_and1 (y_cmp fx cp_gt (q_var 4 rfl (by first | exact Or.inl rfl | exact Or.inr (Or.inl rfl) | exact Or.inr (Or.inr rfl)) rfl rfl) (q_var 3 rfl (by first | exact Or.inl rfl | exact Or.inr (Or.inl rfl) | exact Or.inr (Or.inr rfl)) rfl rfl) (nomark _))))) (z_one (s_set (i := 6) (q_set 6 hN rfl (by first | exact Or.inl rfl | exact Or.inr rfl) rfl (by first | exact Or.inl rfl | exact Or.inr rfl) (x_add fx (x_add fx (x_mul fx (d_lst (q_cons rfl (x_ix fx (q_var 6 rfl (by first | exact Or.inl rfl | exact Or.inr (Or.inl rfl) | exact Or.inr (Or.inr rfl)) rfl rfl) d_int (fun _ _ => rfl)) a_nil)) (x_add fx (q_var 3 rfl (by first | exact Or.inl rfl | exact Or.inr (Or.inl rfl) | exact Or.inr (Or.inr rfl)) rfl rfl) d_int)) (d_sl fx.hK (q_var 6 rfl (by first | exact Or.inl rfl | exact Or.inr (Or.inl rfl) | exact Or.inr (Or.inr rfl)) rfl rfl) (o_some (x_add fx (q_var 3 rfl (by first | exact Or.inl rfl | exact Or.inr (Or.inl rfl) | exact Or.inr (Or.inr rfl)) rfl rfl) d_int)) (o_some (q_var 4 rfl (by first | exact Or.inl rfl | exact Or.inr (Or.inl rfl) | exact Or.inr (Or.inr rfl)) rfl rfl)))) (x_mul fx (d_lst (q_cons rfl (x_ix fx (q_var 6 rfl (by first | exact Or.inl rfl | exact Or.inr (Or.inl rfl) | exact Or.inr (Or.inr rfl)) rfl rfl) (d_neg d_int) (fun _ _ => rfl)) a_nil)) (x_add fx (q_var 3 rfl (by first | exact Or.inl rfl | exact Or.inr (Or.inl rfl) | exact Or.inr (Or.inr rfl)) rfl rfl) d_int)))))) z_nil)
    (z_cons (z_while fuel fx (y_cmp fx (cp_ne fx) (q_lcR1 [(Str.ofString "_law_k", 5)] fx hN rfl n_range rfl (fun _ => rfl) (by kernel_rfl) (q_cons rfl (x_sub fx (x_sub fx (q_bi fx (bi_len fx.toFx0 n_len) rfl (by decide) rfl rfl rfl (q_cons rfl (q_var 6 rfl (by first | exact Or.inl rfl | exact Or.inr (Or.inl rfl) | exact Or.inr (Or.inr rfl)) rfl rfl) a_nil)) (q_var 3 rfl (by first | exact Or.inl rfl | exact Or.inr (Or.inl rfl) | exact Or.inr (Or.inr rfl)) rfl rfl)) d_int) a_nil) (fun s H C cl fp fy => (q_name 5 hN rfl (by first | exact Or.inl rfl | exact Or.inr rfl) (by first | exact Or.inl rfl | exact Or.inr rfl))) (tl_name (by decide)) (fun s H C cl fp fy => (ts_one (y_cmp fy (cp_eq fy) (x_ix fy (q_var 6 rfl (by first | exact Or.inl rfl | exact Or.inr (Or.inl rfl) | exact Or.inr (Or.inr rfl)) rfl rfl) (q_var 5 rfl (by first | exact Or.inl rfl | exact Or.inr (Or.inl rfl) | exact Or.inr (Or.inr rfl)) rfl rfl) (fun _ _ => rfl)) (x_ix fy (q_var 6 rfl (by first | exact Or.inl rfl | exact Or.inr (Or.inl rfl) | exact Or.inr (Or.inr rfl)) rfl rfl) (x_add fy (x_add fy (q_var 5 rfl (by first | exact Or.inl rfl | exact Or.inr (Or.inl rfl) | exact Or.inr (Or.inr rfl)) rfl rfl) (q_var 3 rfl (by first | exact Or.inl rfl | exact Or.inr (Or.inl rfl) | exact Or.inr (Or.inr rfl)) rfl rfl)) d_int) (fun _ _ => rfl)) (nomark _)))) (fun s H C cl fp fy => (q_var 5 rfl (by first | exact Or.inl rfl | exact Or.inr (Or.inl rfl) | exact Or.inr (Or.inr rfl)) rfl rfl))) (d_lst a_nil) (nomark _)) (z_cons (s_set (i := 5) (q_set 5 hN rfl (by first | exact Or.inl rfl | exact Or.inr rfl) rfl (by first | exact Or.inl rfl | exact Or.inr rfl) (x_ix fx (q_lcR1 [(Str.ofString "_law_k", 5)] fx hN rfl n_range rfl (fun _ => rfl) (by kernel_rfl) (q_cons rfl (x_sub fx (x_sub fx (q_bi fx (bi_len fx.toFx0 n_len) rfl (by decide) rfl rfl rfl (q_cons rfl (q_var 6 rfl (by first | exact Or.inl rfl | exact Or.inr (Or.inl rfl) | exact Or.inr (Or.inr rfl)) rfl rfl) a_nil)) (q_var 3 rfl (by first | exact Or.inl rfl | exact Or.inr (Or.inl rfl) | exact Or.inr (Or.inr rfl)) rfl rfl)) d_int) a_nil) (fun s H C cl fp fy => (q_name 5 hN rfl (by first | exact Or.inl rfl | exact Or.inr rfl) (by first | exact Or.inl rfl | exact Or.inr rfl))) (tl_name (by decide)) (fun s H C cl fp fy => (ts_one (y_cmp fy (cp_eq fy) (x_ix fy (q_var 6 rfl (by first | exact Or.inl rfl | exact Or.inr (Or.inl rfl) | exact Or.inr (Or.inr rfl)) rfl rfl) (q_var 5 rfl (by first | exact Or.inl rfl | exact Or.inr (Or.inl rfl) | exact Or.inr (Or.inr rfl)) rfl rfl) (fun _ _ => rfl)) (x_ix fy (q_var 6 rfl (by first | exact Or.inl rfl | exact Or.inr (Or.inl rfl) | exact Or.inr (Or.inr rfl)) rfl rfl) (x_add fy (x_add fy (q_var 5 rfl (by first | exact Or.inl rfl | exact Or.inr (Or.inl rfl) | exact Or.inr (Or.inr rfl)) rfl rfl) (q_var 3 rfl (by first | exact Or.inl rfl | exact Or.inr (Or.inl rfl) | exact Or.inr (Or.inr rfl)) rfl rfl)) d_int) (fun _ _ => rfl)) (nomark _)))) (fun s H C cl fp fy => (q_var 5 rfl (by first | exact Or.inl rfl | exact Or.inr (Or.inl rfl) | exact Or.inr (Or.inr rfl)) rfl rfl))) d_int (fun _ _ => rfl))))
    (z_one (s_set (i := 6) (q_set 6 hN rfl (by first | exact Or.inl rfl | exact Or.inr rfl) rfl (by first | exact Or.inl rfl | exact Or.inr rfl) (x_add fx (d_sl fx.hK (q_var 6 rfl (by first | exact Or.inl rfl | exact Or.inr (Or.inl rfl) | exact Or.inr (Or.inr rfl)) rfl rfl) o_none (o_some (x_add fx (x_add fx (q_var 5 rfl (by first | exact Or.inl rfl | exact Or.inr (Or.inl rfl) | exact Or.inr (Or.inr rfl)) rfl rfl) (q_var 3 rfl (by first | exact Or.inl rfl | exact Or.inr (Or.inl rfl) | exact Or.inr (Or.inr rfl)) rfl rfl)) d_int))) (q_lcA [(Str.ofString "_law_bolt", 7)] fx hN (fun _ => rfl) (by kernel_rfl) (d_sl fx.hK (q_var 6 rfl (by first | exact Or.inl rfl | exact Or.inr (Or.inl rfl) | exact Or.inr (Or.inr rfl)) rfl rfl) (o_some (x_add fx (x_add fx (q_var 5 rfl (by first | exact Or.inl rfl | exact Or.inr (Or.inl rfl) | exact Or.inr (Or.inr rfl)) rfl rfl) (q_var 3 rfl (by first | exact Or.inl rfl | exact Or.inr (Or.inl rfl) | exact Or.inr (Or.inr rfl)) rfl rfl)) d_int)) o_none) (fun s H C cl fp fy => (q_name 7 hN rfl (by first | exact Or.inl rfl | exact Or.inr rfl) (by first | exact Or.inl rfl | exact Or.inr rfl))) (tl_name (by decide)) (fun s H C cl fp fy => ts_nil) (fun s H C cl fp fy => (x_add fy (q_var 7 rfl (by first | exact Or.inl rfl | exact Or.inr (Or.inl rfl) | exact Or.inr (Or.inr rfl)) rfl rfl) d_int)))))))))
    (z_one (s_ret (d_lst (q_cons rfl (q_var 3 rfl (by first | exact Or.inl rfl | exact Or.inr (Or.inl rfl) | exact Or.inr (Or.inr rfl)) rfl rfl) (q_cons rfl (q_bi fx (bi_tuple fx.toFx0 n_tuple) rfl (by decide) rfl rfl rfl (q_cons rfl (q_var 6 rfl (by first | exact Or.inl rfl | exact Or.inr (Or.inl rfl) | exact Or.inr (Or.inr rfl)) rfl rfl) a_nil)) a_nil)))))))))
abbrev N__law_gcd : List Str := [Str.ofString "_law_one", Str.ofString "_law_two"]
theorem sc__law_gcd : FnScope N__law_gcd [Str.ofString "_law_one", Str.ofString "_law_two"] (defScope s__law_gcd) := ⟨rfl, rfl, rfl, by decide +kernel, rfl, by decide +kernel, by decide +kernel⟩
def b__law_gcd (fuel : Nat) : SM :=
    (sSeq (sPar 0 1 (aCons (eCall (m1 absM) (aCons (eVar 0) aNil)) (aCons (eCall (m1 absM) (aCons (eVar 1) aNil)) aNil)))
    (sSeq (whileN (bOf (eBin gtM (eVar 1) (eC (.int 0)))) (sPar 0 1 (aCons (eVar 1) (aCons (eBin modA (eCall (m1 intM) (aCons (eVar 0) aNil)) (eVar 1)) aNil))) fuel)
    (sRet (eVar 0))))
def m__law_gcd (fuel : Nat) : FM := fnM 2 (b__law_gcd fuel)
theorem c__law_gcd (fuel : Nat) (D : DefM G mg "_law_gcd" s__law_gcd [Str.ofString "_law_one", Str.ofString "_law_two"]) (n_abs : mg "abs" = none) (n_int : mg "int" = none) : CalM false P w G mg base 1 "_law_gcd" s__law_gcd [Str.ofString "_law_one", Str.ofString "_law_two"] (m__law_gcd fuel) :=
  calM_of (k := 0) D sc__law_gcd (fun _ _ => rfl) fun f cdv A outer s H E fx => have hN := sc__law_gcd.nd
    (z_cons (s_par (ps_par (i := 0) (j := 1) fx.calm hN rfl rfl (by decide) rfl rfl (q_cons rfl (q_bi fx (bi_abs fx.toFx0 n_abs) rfl (by decide) rfl rfl rfl (q_cons rfl (q_var 0 rfl (by first | exact Or.inl rfl | exact Or.inr (Or.inl rfl) | exact Or.inr (Or.inr rfl)) rfl rfl) a_nil)) (q_cons rfl (q_bi fx (bi_abs fx.toFx0 n_abs) rfl (by decide) rfl rfl rfl (q_cons rfl (q_var 1 rfl (by first | exact Or.inl rfl | exact Or.inr (Or.inl rfl) | exact Or.inr (Or.inr rfl)) rfl rfl) a_nil)) a_nil)) rfl))
    (z_cons (z_while fuel fx (y_cmp fx cp_gt (q_var 1 rfl (by first | exact Or.inl rfl | exact Or.inr (Or.inl rfl) | exact Or.inr (Or.inr rfl)) rfl rfl) d_int (nomark _)) (z_one (s_par (ps_par (i := 0) (j := 1) fx.calm hN rfl rfl (by decide) rfl rfl (q_cons rfl (q_var 1 rfl (by first | exact Or.inl rfl | exact Or.inr (Or.inl rfl) | exact Or.inr (Or.inr rfl)) rfl rfl) (q_cons rfl (x_mod fx (q_bi fx (bi_int fx.toFx0 n_int) rfl (by decide) rfl rfl rfl (q_cons rfl (q_var 0 rfl (by first | exact Or.inl rfl | exact Or.inr (Or.inl rfl) | exact Or.inr (Or.inr rfl)) rfl rfl) a_nil)) (q_var 1 rfl (by first | exact Or.inl rfl | exact Or.inr (Or.inl rfl) | exact Or.inr (Or.inr rfl)) rfl rfl)) a_nil)) rfl))))
    (z_one (s_ret (q_var 0 rfl (by first | exact Or.inl rfl | exact Or.inr (Or.inl rfl) | exact Or.inr (Or.inr rfl)) rfl rfl)))))
abbrev N__law_low : List Str := [Str.ofString "_law_top", Str.ofString "_law_bottom", Str.ofString "_law_same"]
theorem sc__law_low : FnScope N__law_low [Str.ofString "_law_top", Str.ofString "_law_bottom"] (defScope s__law_low) := ⟨rfl, rfl, rfl, by decide +kernel, rfl, by decide +kernel, by decide +kernel⟩
def b__law_low (fuel : Nat) : SM :=
    (sSeq (sIf (bOf (eBin ltM (eVar 1) (eC (.int 0)))) (sPar 0 1 (aCons (eUn negI (eVar 0)) (aCons (eUn negI (eVar 1)) aNil))) sNil)
    (sSeq (sSet 2 (eOwn (m__law_gcd fuel) (aLen 2 (aCons (eVar 0) (aCons (eVar 1) aNil)))))
    (sRet (eCall mTup (aCons (eBin divA (eVar 0) (eVar 2)) (aCons (eBin divA (eVar 1) (eVar 2)) aNil))))))
def m__law_low (fuel : Nat) : FM := fnM 3 (b__law_low fuel)
theorem c__law_low (fuel : Nat) (D : DefM G mg "_law_low" s__law_low [Str.ofString "_law_top", Str.ofString "_law_bottom"]) (c__law_gcd : CalM false P w G mg base 1 "_law_gcd" s__law_gcd [Str.ofString "_law_one", Str.ofString "_law_two"] (m__law_gcd fuel)) : CalM false P w G mg base 2 "_law_low" s__law_low [Str.ofString "_law_top", Str.ofString "_law_bottom"] (m__law_low fuel) :=
  calM_of (k := 1) D sc__law_low (fun _ _ => rfl) fun f cdv A outer s H E fx => have hN := sc__law_low.nd
    (z_cons (s_if (y_cmp fx cp_lt (q_var 1 rfl (by first | exact Or.inl rfl | exact Or.inr (Or.inl rfl) | exact Or.inr (Or.inr rfl)) rfl rfl) d_int (nomark _)) (z_one (s_par (ps_par (i := 0) (j := 1) fx.calm hN rfl rfl (by decide) rfl rfl (q_cons rfl (d_neg (q_var 0 rfl (by first | exact Or.inl rfl | exact Or.inr (Or.inl rfl) | exact Or.inr (Or.inr rfl)) rfl rfl)) (q_cons rfl (d_neg (q_var 1 rfl (by first | exact Or.inl rfl | exact Or.inr (Or.inl rfl) | exact Or.inr (Or.inr rfl)) rfl rfl)) a_nil)) rfl))) z_nil)
    (z_cons (s_set (i := 2) (q_set 2 hN rfl (by first | exact Or.inl rfl | exact Or.inr rfl) rfl (by first | exact Or.inl rfl | exact Or.inr rfl) (q_call rfl fx c__law_gcd (by decide) (by omega) rfl rfl rfl rfl (q_cons rfl (q_var 0 rfl (by first | exact Or.inl rfl | exact Or.inr (Or.inl rfl) | exact Or.inr (Or.inr rfl)) rfl rfl) (q_cons rfl (q_var 1 rfl (by first | exact Or.inl rfl | exact Or.inr (Or.inl rfl) | exact Or.inr (Or.inr rfl)) rfl rfl) a_nil)))))
    (z_one (s_ret (d_tup (q_cons rfl (x_div fx (q_var 0 rfl (by first | exact Or.inl rfl | exact Or.inr (Or.inl rfl) | exact Or.inr (Or.inr rfl)) rfl rfl) (q_var 2 rfl (by first | exact Or.inl rfl | exact Or.inr (Or.inl rfl) | exact Or.inr (Or.inr rfl)) rfl rfl)) (q_cons rfl (x_div fx (q_var 1 rfl (by first | exact Or.inl rfl | exact Or.inr (Or.inl rfl) | exact Or.inr (Or.inr rfl)) rfl rfl) (q_var 2 rfl (by first | exact Or.inl rfl | exact Or.inr (Or.inl rfl) | exact Or.inr (Or.inr rfl)) rfl rfl)) a_nil)))))))
abbrev N__law_amounts : List Str := [Str.ofString "_law_mug_here", Str.ofString "_law_many", Str.ofString "_law_k"]
theorem sc__law_amounts : FnScope N__law_amounts [Str.ofString "_law_mug_here", Str.ofString "_law_many"] (defScope s__law_amounts) := ⟨rfl, rfl, rfl, by decide +kernel, rfl, by decide +kernel, by decide +kernel⟩
def b__law_amounts (fuel : Nat) : SM :=
    (sRet (eCall (m1 tupM) (aCons (eLcR rng1 (aCons (eVar 1) aNil) (fun d rho => some (rho.set 2 (.va d))) [2] bYes (eOwn (m__law_low fuel) (aLen 2 (aCons (eBin subI (eOwn m__law_sip (aLen 2 (aCons (eVar 0) (aCons (eC (.int 19)) aNil)))) (eC (.int 9))) (aCons (eOwn m__law_pick (aLen 2 (aCons (eVar 0) (aCons (eCall mLst (aCons (eC (.int 1)) (aCons (eC (.int 1)) (aCons (eC (.int 1)) (aCons (eC (.int 2)) (aCons (eC (.int 3)) (aCons (eC (.int 7)) aNil))))))) aNil)))) aNil))))) aNil)))
def m__law_amounts (fuel : Nat) : FM := fnM 3 (b__law_amounts fuel)
theorem c__law_amounts (fuel : Nat) (D : DefM G mg "_law_amounts" s__law_amounts [Str.ofString "_law_mug_here", Str.ofString "_law_many"]) (n_range : mg "range" = none) (n_tuple : mg "tuple" = none) (c__law_sip : CalM false P w G mg base 1 "_law_sip" s__law_sip [Str.ofString "_law_mug_here", Str.ofString "_law_top"] (m__law_sip)) (c__law_pick : CalM false P w G mg base 2 "_law_pick" s__law_pick [Str.ofString "_law_mug_here", Str.ofString "_law_menu"] (m__law_pick)) (c__law_low : CalM false P w G mg base 2 "_law_low" s__law_low [Str.ofString "_law_top", Str.ofString "_law_bottom"] (m__law_low fuel)) : CalM false P w G mg base 3 "_law_amounts" s__law_amounts [Str.ofString "_law_mug_here", Str.ofString "_law_many"] (m__law_amounts fuel) :=
  calM_of (k := 2) D sc__law_amounts (fun _ _ => rfl) fun f cdv A outer s H E fx => have hN := sc__law_amounts.nd
    (z_one (s_ret (q_bi fx (bi_tuple fx.toFx0 n_tuple) rfl (by decide) rfl rfl rfl (q_cons rfl (q_lcR1 [(Str.ofString "_law_k", 2)] fx hN rfl n_range rfl (fun _ => rfl) (by kernel_rfl) (q_cons rfl (q_var 1 rfl (by first | exact Or.inl rfl | exact Or.inr (Or.inl rfl) | exact Or.inr (Or.inr rfl)) rfl rfl) a_nil) (fun s H C cl fp fy => (q_name 2 hN rfl (by first | exact Or.inl rfl | exact Or.inr rfl) (by first | exact Or.inl rfl | exact Or.inr rfl))) (tl_name (by decide)) (fun s H C cl fp fy => ts_nil) (fun s H C cl fp fy => (q_call rfl fy c__law_low (by decide) (by omega) rfl rfl rfl rfl (q_cons rfl (x_sub fy (q_call rfl fy c__law_sip (by decide) (by omega) rfl rfl rfl rfl (q_cons rfl (q_var 0 rfl (by first | exact Or.inl rfl | exact Or.inr (Or.inl rfl) | exact Or.inr (Or.inr rfl)) rfl rfl) (q_cons rfl d_int a_nil))) d_int) (q_cons rfl (q_call rfl fy c__law_pick (by decide) (by omega) rfl rfl rfl rfl (q_cons rfl (q_var 0 rfl (by first | exact Or.inl rfl | exact Or.inr (Or.inl rfl) | exact Or.inr (Or.inr rfl)) rfl rfl) (q_cons rfl (d_lst (q_cons rfl d_int (q_cons rfl d_int (q_cons rfl d_int (q_cons rfl d_int (q_cons rfl d_int (q_cons rfl d_int a_nil))))))) a_nil))) a_nil))))) a_nil))))
abbrev N_Frame___eq__ : List Str := [Str.ofString "self", Str.ofString "other"]
theorem sc_Frame___eq__ : FnScope N_Frame___eq__ [Str.ofString "self", Str.ofString "other"] (defScope s_Frame___eq__) := ⟨rfl, rfl, rfl, by decide +kernel, rfl, by decide +kernel, by decide +kernel⟩
def b_Frame___eq__ : SM :=
    (sRet (eAnd (eCall (m2 (isiM (tbC 2))) (aCons (eVar 1) (aCons (eC (.cls 0)) aNil))) (eAnd (eBin eqM (eUn (fldD (fun c => if c = 0 then some 0 else none)) (eVar 0)) (eUn (fldD (fun c => if c = 0 then some 0 else none)) (eVar 1))) (eBin eqM (eUn (fldD (fun c => if c = 0 then some 1 else none)) (eVar 0)) (eUn (fldD (fun c => if c = 0 then some 1 else none)) (eVar 1))))))
def m_Frame___eq__ : FM := fnM 2 (b_Frame___eq__)
theorem t_Frame___eq__ {f : Addr} (Cc : Cls G.K (G.ca 0)) (hm : Meth G.K (G.ca 0) "__eq__" f) (D : MetM G 0 "__eq__" "Frame.__eq__" s_Frame___eq__ f [Str.ofString "self", Str.ofString "other"]) (n_isinstance : mg "isinstance" = none) (k_Frame : mg "Frame" = some (.ref (G.ca 0))) (tab : IsTab G (tbC 2)) (fn_Frame : G.fn 0 = [Str.ofString "_degree", Str.ofString "_knots"]) (ck_Frame : ClOk G 0) : MthF P w G mg base 1 0 "__eq__" "Frame.__eq__" s_Frame___eq__ [Str.ofString "self", Str.ofString "other"] (m_Frame___eq__) :=
  mthF_of (k := 0) Cc hm D sc_Frame___eq__ (fun _ _ => rfl) fun f cdv A outer s H E fx => have hN := sc_Frame___eq__.nd
    (z_one (s_ret (d_and (q_bi fx (bi_isi fx.toFx0 tab n_isinstance) rfl (by decide) rfl rfl rfl (q_cons rfl (q_var 1 rfl (by first | exact Or.inl rfl | exact Or.inr (Or.inl rfl) | exact Or.inr (Or.inr rfl)) rfl rfl) (q_cons rfl (q_cls rfl k_Frame rfl) a_nil))) (d_and (x_cmp fx (cp_eq fx) (q_fld fx (fld1 ck_Frame (by rw [fn_Frame]; rfl)) rfl (q_var 0 rfl (by first | exact Or.inl rfl | exact Or.inr (Or.inl rfl) | exact Or.inr (Or.inr rfl)) rfl rfl)) (q_fld fx (fld1 ck_Frame (by rw [fn_Frame]; rfl)) rfl (q_var 1 rfl (by first | exact Or.inl rfl | exact Or.inr (Or.inl rfl) | exact Or.inr (Or.inr rfl)) rfl rfl)) (nomark _)) (d_one (x_cmp fx (cp_eq fx) (q_fld fx (fld1 ck_Frame (by rw [fn_Frame]; rfl)) rfl (q_var 0 rfl (by first | exact Or.inl rfl | exact Or.inr (Or.inl rfl) | exact Or.inr (Or.inr rfl)) rfl rfl)) (q_fld fx (fld1 ck_Frame (by rw [fn_Frame]; rfl)) rfl (q_var 1 rfl (by first | exact Or.inl rfl | exact Or.inr (Or.inl rfl) | exact Or.inr (Or.inr rfl)) rfl rfl)) (nomark _)))))))
abbrev N_Curve___eq__ : List Str := [Str.ofString "self", Str.ofString "other"]
theorem sc_Curve___eq__ : FnScope N_Curve___eq__ [Str.ofString "self", Str.ofString "other"] (defScope s_Curve___eq__) := ⟨rfl, rfl, rfl, by decide +kernel, rfl, by decide +kernel, by decide +kernel⟩
def b_Curve___eq__ : SM :=
    (sRet (eAnd (eCall (m2 (isiM (tbC 2))) (aCons (eVar 1) (aCons (eC (.cls 1)) aNil))) (eAnd (eBin (orE (eqO 0 m_Frame___eq__ (nfC 2)) eqM) (eUn (fldD (fun c => if c = 1 then some 0 else none)) (eVar 0)) (eUn (fldD (fun c => if c = 1 then some 0 else none)) (eVar 1))) (eBin eqM (eUn (fldD (fun c => if c = 1 then some 1 else none)) (eVar 0)) (eUn (fldD (fun c => if c = 1 then some 1 else none)) (eVar 1))))))
def m_Curve___eq__ : FM := fnM 2 (b_Curve___eq__)
theorem t_Curve___eq__ {f : Addr} (Cc : Cls G.K (G.ca 1)) (hm : Meth G.K (G.ca 1) "__eq__" f) (D : MetM G 1 "__eq__" "Curve.__eq__" s_Curve___eq__ f [Str.ofString "self", Str.ofString "other"]) (n_isinstance : mg "isinstance" = none) (k_Curve : mg "Curve" = some (.ref (G.ca 1))) (tab : IsTab G (tbC 2)) (fn_Curve : G.fn 1 = [Str.ofString "_frame", Str.ofString "_amounts"]) (ck_Curve : ClOk G 1) (E_Frame : EqM P w G mg base 1 0 (m_Frame___eq__) (nfC 2)) : MthF P w G mg base 3 1 "__eq__" "Curve.__eq__" s_Curve___eq__ [Str.ofString "self", Str.ofString "other"] (m_Curve___eq__) :=
  mthF_of (k := 2) Cc hm D sc_Curve___eq__ (fun _ _ => rfl) fun f cdv A outer s H E fx => have hN := sc_Curve___eq__.nd
    (z_one (s_ret (d_and (q_bi fx (bi_isi fx.toFx0 tab n_isinstance) rfl (by decide) rfl rfl rfl (q_cons rfl (q_var 1 rfl (by first | exact Or.inl rfl | exact Or.inr (Or.inl rfl) | exact Or.inr (Or.inr rfl)) rfl rfl) (q_cons rfl (q_cls rfl k_Curve rfl) a_nil))) (d_and (x_cmp fx (cp_eqO fx E_Frame (by decide) tab (nfC_tab 2) (cp_eq fx)) (q_fld fx (fld1 ck_Curve (by rw [fn_Curve]; rfl)) rfl (q_var 0 rfl (by first | exact Or.inl rfl | exact Or.inr (Or.inl rfl) | exact Or.inr (Or.inr rfl)) rfl rfl)) (q_fld fx (fld1 ck_Curve (by rw [fn_Curve]; rfl)) rfl (q_var 1 rfl (by first | exact Or.inl rfl | exact Or.inr (Or.inl rfl) | exact Or.inr (Or.inr rfl)) rfl rfl)) (nomark _)) (d_one (x_cmp fx (cp_eq fx) (q_fld fx (fld1 ck_Curve (by rw [fn_Curve]; rfl)) rfl (q_var 0 rfl (by first | exact Or.inl rfl | exact Or.inr (Or.inl rfl) | exact Or.inr (Or.inr rfl)) rfl rfl)) (q_fld fx (fld1 ck_Curve (by rw [fn_Curve]; rfl)) rfl (q_var 1 rfl (by first | exact Or.inl rfl | exact Or.inr (Or.inl rfl) | exact Or.inr (Or.inr rfl)) rfl rfl)) (nomark _)))))))
abbrev N__law_sites : List Str := [Str.ofString "_law_mug_here", Str.ofString "_law_draft_here", Str.ofString "_law_many", Str.ofString "_law_low_here", Str.ofString "_law_high", Str.ofString "_law_menu", Str.ofString "_law_drawn", Str.ofString "_law_k"]
theorem sc__law_sites : FnScope N__law_sites [Str.ofString "_law_mug_here", Str.ofString "_law_draft_here", Str.ofString "_law_many"] (defScope s__law_sites) := ⟨rfl, rfl, rfl, by decide +kernel, rfl, by decide +kernel, by decide +kernel⟩
def b__law_sites : SM :=
    (sSeq (sPut (putS [3, 4]) (eCall mTup (aCons (eIx (eIx (eVar 1) (eC (.int 1))) (eC (.int 0))) (aCons (eIx (eIx (eVar 1) (eC (.int 1))) (eUn negI (eC (.int 1)))) aNil))))
    (sSeq (sSet 5 (eBin addA (eBin addA (eCall (m1 listM) (aCons (eIx (eVar 1) (eC (.int 1))) aNil)) (eCall mLst (aCons (eCall (orC (m2 maxM) (m1 maxL)) (aCons (eC (.int 0)) (aCons (eBin subI (eVar 3) (eC (.int 1))) aNil))) (aCons (eBin addA (eVar 4) (eC (.int 1))) aNil)))) (eLcR rng1 (aCons (eVar 2) aNil) (fun d rho => some (rho.set 7 (.va d))) [7] bYes (eBin addA (eVar 3) (eOwn m__law_sip (aLen 2 (aCons (eVar 0) (aCons (eBin addA (eBin subI (eVar 4) (eVar 3)) (eC (.int 1))) aNil))))))))
    (sSeq (sSet 6 (eLcR rng1 (aCons (eBin addA (eC (.int 1)) (eOwn m__law_sip (aLen 2 (aCons (eVar 0) (aCons (eVar 2) aNil))))) aNil) (fun d rho => some (rho.set 7 (.va d))) [7] bYes (eBin addA (eOwn m__law_pick (aLen 2 (aCons (eVar 0) (aCons (eVar 5) aNil)))) (eOwn m__law_pick (aLen 2 (aCons (eVar 0) (aCons (eCall mLst (aCons (eC (.int 0)) (aCons (eC (.int 0)) (aCons (eC (.int 0)) (aCons (eC (.int 1)) aNil))))) aNil)))))))
    (sRet (eCall (m1 tupM) (aCons (eSos (eVar 6)) aNil))))))
def m__law_sites : FM := fnM 8 (b__law_sites)
theorem c__law_sites (D : DefM G mg "_law_sites" s__law_sites [Str.ofString "_law_mug_here", Str.ofString "_law_draft_here", Str.ofString "_law_many"]) (n_list : mg "list" = none) (n_max : mg "max" = none) (n_range : mg "range" = none) (n_set : mg "set" = none) (n_sorted : mg "sorted" = none) (n_tuple : mg "tuple" = none) (c__law_sip : CalM false P w G mg base 1 "_law_sip" s__law_sip [Str.ofString "_law_mug_here", Str.ofString "_law_top"] (m__law_sip)) (c__law_pick : CalM false P w G mg base 2 "_law_pick" s__law_pick [Str.ofString "_law_mug_here", Str.ofString "_law_menu"] (m__law_pick)) : CalM false P w G mg base 3 "_law_sites" s__law_sites [Str.ofString "_law_mug_here", Str.ofString "_law_draft_here", Str.ofString "_law_many"] (m__law_sites) :=
  calM_of (k := 2) D sc__law_sites (fun _ _ => rfl) fun f cdv A outer s H E fx => have hN := sc__law_sites.nd
    (z_cons (q_unp [3, 4] rfl fx rfl rfl rfl rfl rfl (d_tup (q_cons rfl (x_ix fx (x_ix fx (q_var 1 rfl (by first | exact Or.inl rfl | exact Or.inr (Or.inl rfl) | exact Or.inr (Or.inr rfl)) rfl rfl) d_int (fun _ _ => rfl)) d_int (fun _ _ => rfl)) (q_cons rfl (x_ix fx (x_ix fx (q_var 1 rfl (by first | exact Or.inl rfl | exact Or.inr (Or.inl rfl) | exact Or.inr (Or.inr rfl)) rfl rfl) d_int (fun _ _ => rfl)) (d_neg d_int) (fun _ _ => rfl)) a_nil))) (q_gcons rfl (q_name 3 hN rfl (by first | exact Or.inl rfl | exact Or.inr rfl) (by first | exact Or.inl rfl | exact Or.inr rfl)) (q_gcons rfl (q_name 4 hN rfl (by first | exact Or.inl rfl | exact Or.inr rfl) (by first | exact Or.inl rfl | exact Or.inr rfl)) pgs_nil)))
    (z_cons (s_set (i := 5) (q_set 5 hN rfl (by first | exact Or.inl rfl | exact Or.inr rfl) rfl (by first | exact Or.inl rfl | exact Or.inr rfl) (x_add fx (x_add fx (q_bi fx (bi_list fx.toFx0 n_list) rfl (by decide) rfl rfl rfl (q_cons rfl (x_ix fx (q_var 1 rfl (by first | exact Or.inl rfl | exact Or.inr (Or.inl rfl) | exact Or.inr (Or.inr rfl)) rfl rfl) d_int (fun _ _ => rfl)) a_nil)) (d_lst (q_cons rfl (q_bi fx (bi_max fx n_max) rfl (by decide) rfl rfl rfl (q_cons rfl d_int (q_cons rfl (x_sub fx (q_var 3 rfl (by first | exact Or.inl rfl | exact Or.inr (Or.inl rfl) | exact Or.inr (Or.inr rfl)) rfl rfl) d_int) a_nil))) (q_cons rfl (x_add fx (q_var 4 rfl (by first | exact Or.inl rfl | exact Or.inr (Or.inl rfl) | exact Or.inr (Or.inr rfl)) rfl rfl) d_int) a_nil)))) (q_lcR1 [(Str.ofString "_law_k", 7)] fx hN rfl n_range rfl (fun _ => rfl) (by kernel_rfl) (q_cons rfl (q_var 2 rfl (by first | exact Or.inl rfl | exact Or.inr (Or.inl rfl) | exact Or.inr (Or.inr rfl)) rfl rfl) a_nil) (fun s H C cl fp fy => (q_name 7 hN rfl (by first | exact Or.inl rfl | exact Or.inr rfl) (by first | exact Or.inl rfl | exact Or.inr rfl))) (tl_name (by decide)) (fun s H C cl fp fy => ts_nil) (fun s H C cl fp fy => (x_add fy (q_var 3 rfl (by first | exact Or.inl rfl | exact Or.inr (Or.inl rfl) | exact Or.inr (Or.inr rfl)) rfl rfl) (q_call rfl fy c__law_sip (by decide) (by omega) rfl rfl rfl rfl (q_cons rfl (q_var 0 rfl (by first | exact Or.inl rfl | exact Or.inr (Or.inl rfl) | exact Or.inr (Or.inr rfl)) rfl rfl) (q_cons rfl (x_add fy (x_sub fy (q_var 4 rfl (by first | exact Or.inl rfl | exact Or.inr (Or.inl rfl) | exact Or.inr (Or.inr rfl)) rfl rfl) (q_var 3 rfl (by first | exact Or.inl rfl | exact Or.inr (Or.inl rfl) | exact Or.inr (Or.inr rfl)) rfl rfl)) d_int) a_nil)))))))))
    (z_cons (s_set (i := 6) (r_lcR1 [(Str.ofString "_law_k", 7)] fx hN rfl rfl rfl rfl n_range rfl (fun _ => rfl) (by kernel_rfl) (q_cons rfl (x_add fx d_int (q_call rfl fx c__law_sip (by decide) (by omega) rfl rfl rfl rfl (q_cons rfl (q_var 0 rfl (by first | exact Or.inl rfl | exact Or.inr (Or.inl rfl) | exact Or.inr (Or.inr rfl)) rfl rfl) (q_cons rfl (q_var 2 rfl (by first | exact Or.inl rfl | exact Or.inr (Or.inl rfl) | exact Or.inr (Or.inr rfl)) rfl rfl) a_nil)))) a_nil) (fun s H C cl fp fy => (q_name 7 hN rfl (by first | exact Or.inl rfl | exact Or.inr rfl) (by first | exact Or.inl rfl | exact Or.inr rfl))) (tl_name (by decide)) (fun s H C cl fp fy => ts_nil) (fun s H C cl fp fy => (x_add fy (q_call rfl fy c__law_pick (by decide) (by omega) rfl rfl rfl rfl (q_cons rfl (q_var 0 rfl (by first | exact Or.inl rfl | exact Or.inr (Or.inl rfl) | exact Or.inr (Or.inr rfl)) rfl rfl) (q_cons rfl (q_var 5 rfl (by first | exact Or.inl rfl | exact Or.inr (Or.inl rfl) | exact Or.inr (Or.inr rfl)) rfl rfl) a_nil))) (q_call rfl fy c__law_pick (by decide) (by omega) rfl rfl rfl rfl (q_cons rfl (q_var 0 rfl (by first | exact Or.inl rfl | exact Or.inr (Or.inl rfl) | exact Or.inr (Or.inr rfl)) rfl rfl) (q_cons rfl (d_lst (q_cons rfl d_int (q_cons rfl d_int (q_cons rfl d_int (q_cons rfl d_int a_nil))))) a_nil)))))))
    (z_one (s_ret (q_bi fx (bi_tuple fx.toFx0 n_tuple) rfl (by decide) rfl rfl rfl (q_cons rfl (q_sos fx rfl n_sorted rfl n_set rfl (q_var 6 rfl (by first | exact Or.inl rfl | exact Or.inr (Or.inl rfl) | exact Or.inr (Or.inr rfl)) rfl rfl)) a_nil)))))))
abbrev N__law_made : List Str := [Str.ofString "_law_draft_here"]
theorem sc__law_made : FnScope N__law_made [Str.ofString "_law_draft_here"] (defScope s__law_made) := ⟨rfl, rfl, rfl, by decide +kernel, rfl, by decide +kernel, by decide +kernel⟩
def b__law_made : SM :=
    (sRet (eMake 0 (lenI 2 i_Frame) (aLen 2 (aCons (eIx (eVar 0) (eC (.int 0))) (aCons (eIx (eVar 0) (eC (.int 1))) aNil)))))
def m__law_made : FM := fnM 1 (b__law_made)
theorem c__law_made (D : DefM G mg "_law_made" s__law_made [Str.ofString "_law_draft_here"]) (fn_Frame : G.fn 0 = [Str.ofString "_degree", Str.ofString "_knots"]) (ck_Frame : ClOk G 0) (mk_Frame : MakM P w G mg base 5 "Frame" 0 2 (i_Frame)) : CalM false P w G mg base 7 "_law_made" s__law_made [Str.ofString "_law_draft_here"] (m__law_made) :=
  calM_of (k := 6) D sc__law_made (fun _ _ => rfl) fun f cdv A outer s H E fx => have hN := sc__law_made.nd
    (z_one (s_ret (q_makeN (by rw [fn_Frame]; rfl) flat_def fx mk_Frame (by decide) rfl rfl rfl rfl (q_cons rfl (x_ix fx (q_var 0 rfl (by first | exact Or.inl rfl | exact Or.inr (Or.inl rfl) | exact Or.inr (Or.inr rfl)) rfl rfl) d_int (fun _ _ => rfl)) (q_cons rfl (x_ix fx (q_var 0 rfl (by first | exact Or.inl rfl | exact Or.inr (Or.inl rfl) | exact Or.inr (Or.inr rfl)) rfl rfl) d_int (fun _ _ => rfl)) a_nil)))))
abbrev N__law_hills : List Str := [Str.ofString "_law_draft_here"]
theorem sc__law_hills : FnScope N__law_hills [Str.ofString "_law_draft_here"] (defScope s__law_hills) := ⟨rfl, rfl, rfl, by decide +kernel, rfl, by decide +kernel, by decide +kernel⟩
def b__law_hills : SM :=
    (sRet (eBin subI (eBin subI (eCall (m1 lenD) (aCons (eIx (eVar 0) (eC (.int 1))) aNil)) (eIx (eVar 0) (eC (.int 0)))) (eC (.int 1))))
def m__law_hills : FM := fnM 1 (b__law_hills)
theorem c__law_hills (D : DefM G mg "_law_hills" s__law_hills [Str.ofString "_law_draft_here"]) (n_len : mg "len" = none) : CalM false P w G mg base 1 "_law_hills" s__law_hills [Str.ofString "_law_draft_here"] (m__law_hills) :=
  calM_of (k := 0) D sc__law_hills (fun _ _ => rfl) fun f cdv A outer s H E fx => have hN := sc__law_hills.nd
    (z_one (s_ret (x_sub fx (x_sub fx (q_bi fx (bi_len fx.toFx0 n_len) rfl (by decide) rfl rfl rfl (q_cons rfl (x_ix fx (q_var 0 rfl (by first | exact Or.inl rfl | exact Or.inr (Or.inl rfl) | exact Or.inr (Or.inr rfl)) rfl rfl) d_int (fun _ _ => rfl)) a_nil)) (x_ix fx (q_var 0 rfl (by first | exact Or.inl rfl | exact Or.inr (Or.inl rfl) | exact Or.inr (Or.inr rfl)) rfl rfl) d_int (fun _ _ => rfl))) d_int)))
abbrev N_Curve_frame : List Str := [Str.ofString "self"]
theorem sc_Curve_frame : FnScope N_Curve_frame [Str.ofString "self"] (defScope s_Curve_frame) := ⟨rfl, rfl, rfl, by decide +kernel, rfl, by decide +kernel, by decide +kernel⟩
def b_Curve_frame : SM :=
    (sRet (eUn (fldD (fun c => if c = 1 then some 0 else none)) (eVar 0)))
def m_Curve_frame : FM := fnM 1 (b_Curve_frame)
theorem p_Curve_frame {f p : Addr} (Cc : Cls G.K (G.ca 1)) (hp : PropOf G.K (G.ca 1) "frame" p f) (D : MetM G 1 "frame" "Curve.frame" s_Curve_frame f [Str.ofString "self"]) (fn_Curve : G.fn 1 = [Str.ofString "_frame", Str.ofString "_amounts"]) (ck_Curve : ClOk G 1) : ProM P w G mg base 1 1 "frame" (m_Curve_frame) :=
  proM_of (k := 0) Cc hp D sc_Curve_frame rfl (fun _ _ => rfl) fun f cdv A outer s H E fx => have hN := sc_Curve_frame.nd
    (z_one (s_ret (q_fld fx (fld1 ck_Curve (by rw [fn_Curve]; rfl)) rfl (q_var 0 rfl (by first | exact Or.inl rfl | exact Or.inr (Or.inl rfl) | exact Or.inr (Or.inr rfl)) rfl rfl))))
abbrev N_Curve_amounts : List Str := [Str.ofString "self"]
theorem sc_Curve_amounts : FnScope N_Curve_amounts [Str.ofString "self"] (defScope s_Curve_amounts) := ⟨rfl, rfl, rfl, by decide +kernel, rfl, by decide +kernel, by decide +kernel⟩
def b_Curve_amounts : SM :=
    (sRet (eUn (fldD (fun c => if c = 1 then some 1 else none)) (eVar 0)))
def m_Curve_amounts : FM := fnM 1 (b_Curve_amounts)
theorem p_Curve_amounts {f p : Addr} (Cc : Cls G.K (G.ca 1)) (hp : PropOf G.K (G.ca 1) "amounts" p f) (D : MetM G 1 "amounts" "Curve.amounts" s_Curve_amounts f [Str.ofString "self"]) (fn_Curve : G.fn 1 = [Str.ofString "_frame", Str.ofString "_amounts"]) (ck_Curve : ClOk G 1) : ProM P w G mg base 1 1 "amounts" (m_Curve_amounts) :=
  proM_of (k := 0) Cc hp D sc_Curve_amounts rfl (fun _ _ => rfl) fun f cdv A outer s H E fx => have hN := sc_Curve_amounts.nd
    (z_one (s_ret (q_fld fx (fld1 ck_Curve (by rw [fn_Curve]; rfl)) rfl (q_var 0 rfl (by first | exact Or.inl rfl | exact Or.inr (Or.inl rfl) | exact Or.inr (Or.inr rfl)) rfl rfl))))
abbrev N__law_mult : List Str := [Str.ofString "_law_one", Str.ofString "_law_two"]
theorem sc__law_mult : FnScope N__law_mult [Str.ofString "_law_one", Str.ofString "_law_two"] (defScope s__law_mult) := ⟨rfl, rfl, rfl, by decide +kernel, rfl, by decide +kernel, by decide +kernel⟩
def b__law_mult (fuel : Nat) : SM :=
    (sRet (eOwn (m__law_low fuel) (aLen 2 (aCons (eBin mulA (eIx (eVar 0) (eC (.int 0))) (eIx (eVar 1) (eC (.int 0)))) (aCons (eBin mulA (eIx (eVar 0) (eC (.int 1))) (eIx (eVar 1) (eC (.int 1)))) aNil)))))
def m__law_mult (fuel : Nat) : FM := fnM 2 (b__law_mult fuel)
theorem c__law_mult (fuel : Nat) (D : DefM G mg "_law_mult" s__law_mult [Str.ofString "_law_one", Str.ofString "_law_two"]) (c__law_low : CalM false P w G mg base 2 "_law_low" s__law_low [Str.ofString "_law_top", Str.ofString "_law_bottom"] (m__law_low fuel)) : CalM false P w G mg base 3 "_law_mult" s__law_mult [Str.ofString "_law_one", Str.ofString "_law_two"] (m__law_mult fuel) :=
  calM_of (k := 2) D sc__law_mult (fun _ _ => rfl) fun f cdv A outer s H E fx => have hN := sc__law_mult.nd
    (z_one (s_ret (q_call rfl fx c__law_low (by decide) (by omega) rfl rfl rfl rfl (q_cons rfl (x_mul fx (x_ix fx (q_var 0 rfl (by first | exact Or.inl rfl | exact Or.inr (Or.inl rfl) | exact Or.inr (Or.inr rfl)) rfl rfl) d_int (fun _ _ => rfl)) (x_ix fx (q_var 1 rfl (by first | exact Or.inl rfl | exact Or.inr (Or.inl rfl) | exact Or.inr (Or.inr rfl)) rfl rfl) d_int (fun _ _ => rfl))) (q_cons rfl (x_mul fx (x_ix fx (q_var 0 rfl (by first | exact Or.inl rfl | exact Or.inr (Or.inl rfl) | exact Or.inr (Or.inr rfl)) rfl rfl) d_int (fun _ _ => rfl)) (x_ix fx (q_var 1 rfl (by first | exact Or.inl rfl | exact Or.inr (Or.inl rfl) | exact Or.inr (Or.inr rfl)) rfl rfl) d_int (fun _ _ => rfl))) a_nil)))))
abbrev N__law_plus : List Str := [Str.ofString "_law_one", Str.ofString "_law_two"]
theorem sc__law_plus : FnScope N__law_plus [Str.ofString "_law_one", Str.ofString "_law_two"] (defScope s__law_plus) := ⟨rfl, rfl, rfl, by decide +kernel, rfl, by decide +kernel, by decide +kernel⟩
def b__law_plus (fuel : Nat) : SM :=
    (sRet (eOwn (m__law_low fuel) (aLen 2 (aCons (eBin addA (eBin mulA (eIx (eVar 0) (eC (.int 0))) (eIx (eVar 1) (eC (.int 1)))) (eBin mulA (eIx (eVar 1) (eC (.int 0))) (eIx (eVar 0) (eC (.int 1))))) (aCons (eBin mulA (eIx (eVar 0) (eC (.int 1))) (eIx (eVar 1) (eC (.int 1)))) aNil)))))
def m__law_plus (fuel : Nat) : FM := fnM 2 (b__law_plus fuel)
theorem c__law_plus (fuel : Nat) (D : DefM G mg "_law_plus" s__law_plus [Str.ofString "_law_one", Str.ofString "_law_two"]) (c__law_low : CalM false P w G mg base 2 "_law_low" s__law_low [Str.ofString "_law_top", Str.ofString "_law_bottom"] (m__law_low fuel)) : CalM false P w G mg base 3 "_law_plus" s__law_plus [Str.ofString "_law_one", Str.ofString "_law_two"] (m__law_plus fuel) :=
  calM_of (k := 2) D sc__law_plus (fun _ _ => rfl) fun f cdv A outer s H E fx => have hN := sc__law_plus.nd
    (z_one (s_ret (q_call rfl fx c__law_low (by decide) (by omega) rfl rfl rfl rfl (q_cons rfl (x_add fx (x_mul fx (x_ix fx (q_var 0 rfl (by first | exact Or.inl rfl | exact Or.inr (Or.inl rfl) | exact Or.inr (Or.inr rfl)) rfl rfl) d_int (fun _ _ => rfl)) (x_ix fx (q_var 1 rfl (by first | exact Or.inl rfl | exact Or.inr (Or.inl rfl) | exact Or.inr (Or.inr rfl)) rfl rfl) d_int (fun _ _ => rfl))) (x_mul fx (x_ix fx (q_var 1 rfl (by first | exact Or.inl rfl | exact Or.inr (Or.inl rfl) | exact Or.inr (Or.inr rfl)) rfl rfl) d_int (fun _ _ => rfl)) (x_ix fx (q_var 0 rfl (by first | exact Or.inl rfl | exact Or.inr (Or.inl rfl) | exact Or.inr (Or.inr rfl)) rfl rfl) d_int (fun _ _ => rfl)))) (q_cons rfl (x_mul fx (x_ix fx (q_var 0 rfl (by first | exact Or.inl rfl | exact Or.inr (Or.inl rfl) | exact Or.inr (Or.inr rfl)) rfl rfl) d_int (fun _ _ => rfl)) (x_ix fx (q_var 1 rfl (by first | exact Or.inl rfl | exact Or.inr (Or.inl rfl) | exact Or.inr (Or.inr rfl)) rfl rfl) d_int (fun _ _ => rfl))) a_nil)))))
abbrev N__law_bump : List Str := [Str.ofString "_law_bolts", Str.ofString "_law_k", Str.ofString "_law_grade", Str.ofString "_law_x", Str.ofString "_law_left", Str.ofString "_law_right_here", Str.ofString "_law_inside", Str.ofString "_law_found", Str.ofString "_law_rise", Str.ofString "_law_fall", Str.ofString "_law_part_here"]
theorem sc__law_bump : FnScope N__law_bump [Str.ofString "_law_bolts", Str.ofString "_law_k", Str.ofString "_law_grade", Str.ofString "_law_x"] (defScope s__law_bump) := ⟨rfl, rfl, rfl, by decide +kernel, rfl, by decide +kernel, by decide +kernel⟩
def b__law_bump (fuel : Nat) (rec : FM) : SM :=
    (sSeq (sIf (bOf (eBin eqM (eVar 2) (eC (.int 0)))) (sSeq (sPar 4 5 (aCons (eBin mulA (eIx (eVar 0) (eVar 1)) (eIx (eVar 3) (eC (.int 1)))) (aCons (eBin mulA (eIx (eVar 0) (eBin addA (eVar 1) (eC (.int 1)))) (eIx (eVar 3) (eC (.int 1)))) aNil)))
    (sSeq (sSet 6 (eIf (bOf (eBin eqM (eIx (eVar 3) (eC (.int 0))) (eBin mulA (eIx (eVar 0) (eUn negI (eC (.int 1)))) (eIx (eVar 3) (eC (.int 1)))))) (eChain ltM leM (eVar 4) (eIx (eVar 3) (eC (.int 0))) (eVar 5)) (eChain leM ltM (eVar 4) (eIx (eVar 3) (eC (.int 0))) (eVar 5))))
    (sRet (eIf (bTru (eVar 6)) (eCall mTup (aCons (eC (.int 1)) (aCons (eC (.int 1)) aNil))) (eCall mTup (aCons (eC (.int 0)) (aCons (eC (.int 1)) aNil))))))) sNil)
    (sSeq (sPar3 7 8 9 (aCons (eCall mTup (aCons (eC (.int 0)) (aCons (eC (.int 1)) aNil))) (aCons (eBin subI (eIx (eVar 0) (eBin addA (eVar 1) (eVar 2))) (eIx (eVar 0) (eVar 1))) (aCons (eBin subI (eIx (eVar 0) (eBin addA (eBin addA (eVar 1) (eVar 2)) (eC (.int 1)))) (eIx (eVar 0) (eBin addA (eVar 1) (eC (.int 1))))) aNil))))
    (sSeq (sIf (bOf (eBin gtM (eVar 8) (eC (.int 0)))) (sSet 7 (eOwn (m__law_mult fuel) (aLen 2 (aCons (eOwn (m__law_low fuel) (aLen 2 (aCons (eBin subI (eIx (eVar 3) (eC (.int 0))) (eBin mulA (eIx (eVar 0) (eVar 1)) (eIx (eVar 3) (eC (.int 1))))) (aCons (eBin mulA (eVar 8) (eIx (eVar 3) (eC (.int 1)))) aNil)))) (aCons (eOwn rec (aLen 4 (aCons (eVar 0) (aCons (eVar 1) (aCons (eBin subI (eVar 2) (eC (.int 1))) (aCons (eVar 3) aNil)))))) aNil))))) sNil)
    (sSeq (sIf (bOf (eBin gtM (eVar 9) (eC (.int 0)))) (sSeq (sSet 10 (eOwn (m__law_low fuel) (aLen 2 (aCons (eBin subI (eBin mulA (eIx (eVar 0) (eBin addA (eBin addA (eVar 1) (eVar 2)) (eC (.int 1)))) (eIx (eVar 3) (eC (.int 1)))) (eIx (eVar 3) (eC (.int 0)))) (aCons (eBin mulA (eVar 9) (eIx (eVar 3) (eC (.int 1)))) aNil)))))
    (sSet 7 (eOwn (m__law_plus fuel) (aLen 2 (aCons (eVar 7) (aCons (eOwn (m__law_mult fuel) (aLen 2 (aCons (eVar 10) (aCons (eOwn rec (aLen 4 (aCons (eVar 0) (aCons (eBin addA (eVar 1) (eC (.int 1))) (aCons (eBin subI (eVar 2) (eC (.int 1))) (aCons (eVar 3) aNil)))))) aNil)))) aNil)))))) sNil)
    (sRet (eVar 7))))))
def mr__law_bump (fuel : Nat) : Nat → FM
  | 0 => fun _ _ => none
  | d + 1 => fnM 11 (b__law_bump fuel (mr__law_bump fuel d))
def m__law_bump (fuel : Nat) : FM := mr__law_bump fuel 8
theorem cr__law_bump (fuel : Nat) (D : DefM G mg "_law_bump" s__law_bump [Str.ofString "_law_bolts", Str.ofString "_law_k", Str.ofString "_law_grade", Str.ofString "_law_x"]) (c__law_low : CalM false P w G mg base 2 "_law_low" s__law_low [Str.ofString "_law_top", Str.ofString "_law_bottom"] (m__law_low fuel)) (c__law_mult : CalM false P w G mg base 3 "_law_mult" s__law_mult [Str.ofString "_law_one", Str.ofString "_law_two"] (m__law_mult fuel)) (c__law_plus : CalM false P w G mg base 3 "_law_plus" s__law_plus [Str.ofString "_law_one", Str.ofString "_law_two"] (m__law_plus fuel)) : ∀ d : Nat, CalM false P w G mg base (3 + d) "_law_bump" s__law_bump [Str.ofString "_law_bolts", Str.ofString "_law_k", Str.ofString "_law_grade", Str.ofString "_law_x"] (mr__law_bump fuel d) := by
  intro d
  induction d with
  | zero => exact calM_none D
  | succ d ih => exact calM_of (k := 3 + d) D sc__law_bump (fun _ _ => rfl) fun f cdv A outer s H E fx => have hN := sc__law_bump.nd
    (z_cons (s_if (y_cmp fx (cp_eq fx) (q_var 2 rfl (by first | exact Or.inl rfl | exact Or.inr (Or.inl rfl) | exact Or.inr (Or.inr rfl)) rfl rfl) d_int (nomark _)) (z_cons (s_par (ps_par (i := 4) (j := 5) fx.calm hN rfl rfl (by decide) rfl rfl (q_cons rfl (x_mul fx (x_ix fx (q_var 0 rfl (by first | exact Or.inl rfl | exact Or.inr (Or.inl rfl) | exact Or.inr (Or.inr rfl)) rfl rfl) (q_var 1 rfl (by first | exact Or.inl rfl | exact Or.inr (Or.inl rfl) | exact Or.inr (Or.inr rfl)) rfl rfl) (fun _ _ => rfl)) (x_ix fx (q_var 3 rfl (by first | exact Or.inl rfl | exact Or.inr (Or.inl rfl) | exact Or.inr (Or.inr rfl)) rfl rfl) d_int (fun _ _ => rfl))) (q_cons rfl (x_mul fx (x_ix fx (q_var 0 rfl (by first | exact Or.inl rfl | exact Or.inr (Or.inl rfl) | exact Or.inr (Or.inr rfl)) rfl rfl) (x_add fx (q_var 1 rfl (by first | exact Or.inl rfl | exact Or.inr (Or.inl rfl) | exact Or.inr (Or.inr rfl)) rfl rfl) d_int) (fun _ _ => rfl)) (x_ix fx (q_var 3 rfl (by first | exact Or.inl rfl | exact Or.inr (Or.inl rfl) | exact Or.inr (Or.inr rfl)) rfl rfl) d_int (fun _ _ => rfl))) a_nil)) rfl))
    (z_cons (s_set (i := 6) (q_set 6 hN rfl (by first | exact Or.inl rfl | exact Or.inr rfl) rfl (by first | exact Or.inl rfl | exact Or.inr rfl) (d_if (y_cmp fx (cp_eq fx) (x_ix fx (q_var 3 rfl (by first | exact Or.inl rfl | exact Or.inr (Or.inl rfl) | exact Or.inr (Or.inr rfl)) rfl rfl) d_int (fun _ _ => rfl)) (x_mul fx (x_ix fx (q_var 0 rfl (by first | exact Or.inl rfl | exact Or.inr (Or.inl rfl) | exact Or.inr (Or.inr rfl)) rfl rfl) (d_neg d_int) (fun _ _ => rfl)) (x_ix fx (q_var 3 rfl (by first | exact Or.inl rfl | exact Or.inr (Or.inl rfl) | exact Or.inr (Or.inr rfl)) rfl rfl) d_int (fun _ _ => rfl))) (nomark _)) (x_chain fx cp_lt cp_le (q_var 4 rfl (by first | exact Or.inl rfl | exact Or.inr (Or.inl rfl) | exact Or.inr (Or.inr rfl)) rfl rfl) (x_ix fx (q_var 3 rfl (by first | exact Or.inl rfl | exact Or.inr (Or.inl rfl) | exact Or.inr (Or.inr rfl)) rfl rfl) d_int (fun _ _ => rfl)) (q_var 5 rfl (by first | exact Or.inl rfl | exact Or.inr (Or.inl rfl) | exact Or.inr (Or.inr rfl)) rfl rfl) rfl) (x_chain fx cp_le cp_lt (q_var 4 rfl (by first | exact Or.inl rfl | exact Or.inr (Or.inl rfl) | exact Or.inr (Or.inr rfl)) rfl rfl) (x_ix fx (q_var 3 rfl (by first | exact Or.inl rfl | exact Or.inr (Or.inl rfl) | exact Or.inr (Or.inr rfl)) rfl rfl) d_int (fun _ _ => rfl)) (q_var 5 rfl (by first | exact Or.inl rfl | exact Or.inr (Or.inl rfl) | exact Or.inr (Or.inr rfl)) rfl rfl) rfl))))
    (z_one (s_ret (d_if (t_tru fx.hK (q_var 6 rfl (by first | exact Or.inl rfl | exact Or.inr (Or.inl rfl) | exact Or.inr (Or.inr rfl)) rfl rfl) (fun _ => rfl)) (d_tup (q_cons rfl d_int (q_cons rfl d_int a_nil))) (d_tup (q_cons rfl d_int (q_cons rfl d_int a_nil)))))))) z_nil)
    (z_cons (s_par3 (ps_par3 (i := 7) (j := 8) (l := 9) fx.calm hN rfl rfl rfl (by decide) (by decide) (by decide) rfl rfl rfl (q_cons rfl (d_tup (q_cons rfl d_int (q_cons rfl d_int a_nil))) (q_cons rfl (x_sub fx (x_ix fx (q_var 0 rfl (by first | exact Or.inl rfl | exact Or.inr (Or.inl rfl) | exact Or.inr (Or.inr rfl)) rfl rfl) (x_add fx (q_var 1 rfl (by first | exact Or.inl rfl | exact Or.inr (Or.inl rfl) | exact Or.inr (Or.inr rfl)) rfl rfl) (q_var 2 rfl (by first | exact Or.inl rfl | exact Or.inr (Or.inl rfl) | exact Or.inr (Or.inr rfl)) rfl rfl)) (fun _ _ => rfl)) (x_ix fx (q_var 0 rfl (by first | exact Or.inl rfl | exact Or.inr (Or.inl rfl) | exact Or.inr (Or.inr rfl)) rfl rfl) (q_var 1 rfl (by first | exact Or.inl rfl | exact Or.inr (Or.inl rfl) | exact Or.inr (Or.inr rfl)) rfl rfl) (fun _ _ => rfl))) (q_cons rfl (x_sub fx (x_ix fx (q_var 0 rfl (by first | exact Or.inl rfl | exact Or.inr (Or.inl rfl) | exact Or.inr (Or.inr rfl)) rfl rfl) (x_add fx (x_add fx (q_var 1 rfl (by first | exact Or.inl rfl | exact Or.inr (Or.inl rfl) | exact Or.inr (Or.inr rfl)) rfl rfl) (q_var 2 rfl (by first | exact Or.inl rfl | exact Or.inr (Or.inl rfl) | exact Or.inr (Or.inr rfl)) rfl rfl)) d_int) (fun _ _ => rfl)) (x_ix fx (q_var 0 rfl (by first | exact Or.inl rfl | exact Or.inr (Or.inl rfl) | exact Or.inr (Or.inr rfl)) rfl rfl) (x_add fx (q_var 1 rfl (by first | exact Or.inl rfl | exact Or.inr (Or.inl rfl) | exact Or.inr (Or.inr rfl)) rfl rfl) d_int) (fun _ _ => rfl))) a_nil))) rfl))
    (z_cons (s_if (y_cmp fx cp_gt (q_var 8 rfl (by first | exact Or.inl rfl | exact Or.inr (Or.inl rfl) | exact Or.inr (Or.inr rfl)) rfl rfl) d_int (nomark _)) (z_one (s_set (i := 7) (q_set 7 hN rfl (by first | exact Or.inl rfl | exact Or.inr rfl) rfl (by first | exact Or.inl rfl | exact Or.inr rfl) (q_call rfl fx c__law_mult (by decide) (by omega) rfl rfl rfl rfl (q_cons rfl (q_call rfl fx c__law_low (by decide) (by omega) rfl rfl rfl rfl (q_cons rfl (x_sub fx (x_ix fx (q_var 3 rfl (by first | exact Or.inl rfl | exact Or.inr (Or.inl rfl) | exact Or.inr (Or.inr rfl)) rfl rfl) d_int (fun _ _ => rfl)) (x_mul fx (x_ix fx (q_var 0 rfl (by first | exact Or.inl rfl | exact Or.inr (Or.inl rfl) | exact Or.inr (Or.inr rfl)) rfl rfl) (q_var 1 rfl (by first | exact Or.inl rfl | exact Or.inr (Or.inl rfl) | exact Or.inr (Or.inr rfl)) rfl rfl) (fun _ _ => rfl)) (x_ix fx (q_var 3 rfl (by first | exact Or.inl rfl | exact Or.inr (Or.inl rfl) | exact Or.inr (Or.inr rfl)) rfl rfl) d_int (fun _ _ => rfl)))) (q_cons rfl (x_mul fx (q_var 8 rfl (by first | exact Or.inl rfl | exact Or.inr (Or.inl rfl) | exact Or.inr (Or.inr rfl)) rfl rfl) (x_ix fx (q_var 3 rfl (by first | exact Or.inl rfl | exact Or.inr (Or.inl rfl) | exact Or.inr (Or.inr rfl)) rfl rfl) d_int (fun _ _ => rfl))) a_nil))) (q_cons rfl (q_call rfl fx ih (by decide) (by omega) rfl rfl rfl rfl (q_cons rfl (q_var 0 rfl (by first | exact Or.inl rfl | exact Or.inr (Or.inl rfl) | exact Or.inr (Or.inr rfl)) rfl rfl) (q_cons rfl (q_var 1 rfl (by first | exact Or.inl rfl | exact Or.inr (Or.inl rfl) | exact Or.inr (Or.inr rfl)) rfl rfl) (q_cons rfl (x_sub fx (q_var 2 rfl (by first | exact Or.inl rfl | exact Or.inr (Or.inl rfl) | exact Or.inr (Or.inr rfl)) rfl rfl) d_int) (q_cons rfl (q_var 3 rfl (by first | exact Or.inl rfl | exact Or.inr (Or.inl rfl) | exact Or.inr (Or.inr rfl)) rfl rfl) a_nil))))) a_nil)))))) z_nil)
    (z_cons (s_if (y_cmp fx cp_gt (q_var 9 rfl (by first | exact Or.inl rfl | exact Or.inr (Or.inl rfl) | exact Or.inr (Or.inr rfl)) rfl rfl) d_int (nomark _)) (z_cons (s_set (i := 10) (q_set 10 hN rfl (by first | exact Or.inl rfl | exact Or.inr rfl) rfl (by first | exact Or.inl rfl | exact Or.inr rfl) (q_call rfl fx c__law_low (by decide) (by omega) rfl rfl rfl rfl (q_cons rfl (x_sub fx (x_mul fx (x_ix fx (q_var 0 rfl (by first | exact Or.inl rfl | exact Or.inr (Or.inl rfl) | exact Or.inr (Or.inr rfl)) rfl rfl) (x_add fx (x_add fx (q_var 1 rfl (by first | exact Or.inl rfl | exact Or.inr (Or.inl rfl) | exact Or.inr (Or.inr rfl)) rfl rfl) (q_var 2 rfl (by first | exact Or.inl rfl | exact Or.inr (Or.inl rfl) | exact Or.inr (Or.inr rfl)) rfl rfl)) d_int) (fun _ _ => rfl)) (x_ix fx (q_var 3 rfl (by first | exact Or.inl rfl | exact Or.inr (Or.inl rfl) | exact Or.inr (Or.inr rfl)) rfl rfl) d_int (fun _ _ => rfl))) (x_ix fx (q_var 3 rfl (by first | exact Or.inl rfl | exact Or.inr (Or.inl rfl) | exact Or.inr (Or.inr rfl)) rfl rfl) d_int (fun _ _ => rfl))) (q_cons rfl (x_mul fx (q_var 9 rfl (by first | exact Or.inl rfl | exact Or.inr (Or.inl rfl) | exact Or.inr (Or.inr rfl)) rfl rfl) (x_ix fx (q_var 3 rfl (by first | exact Or.inl rfl | exact Or.inr (Or.inl rfl) | exact Or.inr (Or.inr rfl)) rfl rfl) d_int (fun _ _ => rfl))) a_nil)))))
    (z_one (s_set (i := 7) (q_set 7 hN rfl (by first | exact Or.inl rfl | exact Or.inr rfl) rfl (by first | exact Or.inl rfl | exact Or.inr rfl) (q_call rfl fx c__law_plus (by decide) (by omega) rfl rfl rfl rfl (q_cons rfl (q_var 7 rfl (by first | exact Or.inl rfl | exact Or.inr (Or.inl rfl) | exact Or.inr (Or.inr rfl)) rfl rfl) (q_cons rfl (q_call rfl fx c__law_mult (by decide) (by omega) rfl rfl rfl rfl (q_cons rfl (q_var 10 rfl (by first | exact Or.inl rfl | exact Or.inr (Or.inl rfl) | exact Or.inr (Or.inr rfl)) rfl rfl) (q_cons rfl (q_call rfl fx ih (by decide) (by omega) rfl rfl rfl rfl (q_cons rfl (q_var 0 rfl (by first | exact Or.inl rfl | exact Or.inr (Or.inl rfl) | exact Or.inr (Or.inr rfl)) rfl rfl) (q_cons rfl (x_add fx (q_var 1 rfl (by first | exact Or.inl rfl | exact Or.inr (Or.inl rfl) | exact Or.inr (Or.inr rfl)) rfl rfl) d_int) (q_cons rfl (x_sub fx (q_var 2 rfl (by first | exact Or.inl rfl | exact Or.inr (Or.inl rfl) | exact Or.inr (Or.inr rfl)) rfl rfl) d_int) (q_cons rfl (q_var 3 rfl (by first | exact Or.inl rfl | exact Or.inr (Or.inl rfl) | exact Or.inr (Or.inr rfl)) rfl rfl) a_nil))))) a_nil))) a_nil))))))) z_nil)
    (z_one (s_ret (q_var 7 rfl (by first | exact Or.inl rfl | exact Or.inr (Or.inl rfl) | exact Or.inr (Or.inr rfl)) rfl rfl)))))))
theorem c__law_bump (fuel : Nat) (D : DefM G mg "_law_bump" s__law_bump [Str.ofString "_law_bolts", Str.ofString "_law_k", Str.ofString "_law_grade", Str.ofString "_law_x"]) (c__law_low : CalM false P w G mg base 2 "_law_low" s__law_low [Str.ofString "_law_top", Str.ofString "_law_bottom"] (m__law_low fuel)) (c__law_mult : CalM false P w G mg base 3 "_law_mult" s__law_mult [Str.ofString "_law_one", Str.ofString "_law_two"] (m__law_mult fuel)) (c__law_plus : CalM false P w G mg base 3 "_law_plus" s__law_plus [Str.ofString "_law_one", Str.ofString "_law_two"] (m__law_plus fuel)) : CalM false P w G mg base 11 "_law_bump" s__law_bump [Str.ofString "_law_bolts", Str.ofString "_law_k", Str.ofString "_law_grade", Str.ofString "_law_x"] (m__law_bump fuel) := cr__law_bump fuel D c__law_low c__law_mult c__law_plus 8
abbrev N__law_row : List Str := [Str.ofString "_law_grade", Str.ofString "_law_bolts", Str.ofString "_law_x", Str.ofString "_law_k"]
theorem sc__law_row : FnScope N__law_row [Str.ofString "_law_grade", Str.ofString "_law_bolts", Str.ofString "_law_x"] (defScope s__law_row) := ⟨rfl, rfl, rfl, by decide +kernel, rfl, by decide +kernel, by decide +kernel⟩
def b__law_row (fuel : Nat) : SM :=
    (sRet (eLcR rng1 (aCons (eBin subI (eBin subI (eCall (m1 lenD) (aCons (eVar 1) aNil)) (eVar 0)) (eC (.int 1))) aNil) (fun d rho => some (rho.set 3 (.va d))) [3] bYes (eOwn (m__law_bump fuel) (aLen 4 (aCons (eVar 1) (aCons (eVar 3) (aCons (eVar 0) (aCons (eVar 2) aNil))))))))
def m__law_row (fuel : Nat) : FM := fnM 4 (b__law_row fuel)
theorem c__law_row (fuel : Nat) (D : DefM G mg "_law_row" s__law_row [Str.ofString "_law_grade", Str.ofString "_law_bolts", Str.ofString "_law_x"]) (n_len : mg "len" = none) (n_range : mg "range" = none) (c__law_bump : CalM false P w G mg base 11 "_law_bump" s__law_bump [Str.ofString "_law_bolts", Str.ofString "_law_k", Str.ofString "_law_grade", Str.ofString "_law_x"] (m__law_bump fuel)) : CalM false P w G mg base 12 "_law_row" s__law_row [Str.ofString "_law_grade", Str.ofString "_law_bolts", Str.ofString "_law_x"] (m__law_row fuel) :=
  calM_of (k := 11) D sc__law_row (fun _ _ => rfl) fun f cdv A outer s H E fx => have hN := sc__law_row.nd
    (z_one (s_ret (q_lcR1 [(Str.ofString "_law_k", 3)] fx hN rfl n_range rfl (fun _ => rfl) (by kernel_rfl) (q_cons rfl (x_sub fx (x_sub fx (q_bi fx (bi_len fx.toFx0 n_len) rfl (by decide) rfl rfl rfl (q_cons rfl (q_var 1 rfl (by first | exact Or.inl rfl | exact Or.inr (Or.inl rfl) | exact Or.inr (Or.inr rfl)) rfl rfl) a_nil)) (q_var 0 rfl (by first | exact Or.inl rfl | exact Or.inr (Or.inl rfl) | exact Or.inr (Or.inr rfl)) rfl rfl)) d_int) a_nil) (fun s H C cl fp fy => (q_name 3 hN rfl (by first | exact Or.inl rfl | exact Or.inr rfl) (by first | exact Or.inl rfl | exact Or.inr rfl))) (tl_name (by decide)) (fun s H C cl fp fy => ts_nil) (fun s H C cl fp fy => (q_call rfl fy c__law_bump (by decide) (by omega) rfl rfl rfl rfl (q_cons rfl (q_var 1 rfl (by first | exact Or.inl rfl | exact Or.inr (Or.inl rfl) | exact Or.inr (Or.inr rfl)) rfl rfl) (q_cons rfl (q_var 3 rfl (by first | exact Or.inl rfl | exact Or.inr (Or.inl rfl) | exact Or.inr (Or.inr rfl)) rfl rfl) (q_cons rfl (q_var 0 rfl (by first | exact Or.inl rfl | exact Or.inr (Or.inl rfl) | exact Or.inr (Or.inr rfl)) rfl rfl) (q_cons rfl (q_var 2 rfl (by first | exact Or.inl rfl | exact Or.inr (Or.inl rfl) | exact Or.inr (Or.inr rfl)) rfl rfl) a_nil)))))))))
abbrev N__law_dot : List Str := [Str.ofString "_law_some", Str.ofString "_law_others", Str.ofString "_law_found", Str.ofString "_law_one", Str.ofString "_law_two"]
theorem sc__law_dot : FnScope N__law_dot [Str.ofString "_law_some", Str.ofString "_law_others"] (defScope s__law_dot) := ⟨rfl, rfl, rfl, by decide +kernel, rfl, by decide +kernel, by decide +kernel⟩
def b__law_dot (fuel : Nat) : SM :=
    (sSeq (sSet 2 (eCall mTup (aCons (eC (.int 0)) (aCons (eC (.int 1)) aNil))))
    (sSeq (sForZM (aCons (eVar 0) (aCons (eVar 1) aNil)) (sBody (putPair 3 4) (sSet 2 (eOwn (m__law_plus fuel) (aLen 2 (aCons (eVar 2) (aCons (eOwn (m__law_mult fuel) (aLen 2 (aCons (eVar 3) (aCons (eVar 4) aNil)))) aNil)))))))
    (sRet (eVar 2))))
def m__law_dot (fuel : Nat) : FM := fnM 5 (b__law_dot fuel)
theorem c__law_dot (fuel : Nat) (D : DefM G mg "_law_dot" s__law_dot [Str.ofString "_law_some", Str.ofString "_law_others"]) (n_zip : mg "zip" = none) (c__law_mult : CalM false P w G mg base 3 "_law_mult" s__law_mult [Str.ofString "_law_one", Str.ofString "_law_two"] (m__law_mult fuel)) (c__law_plus : CalM false P w G mg base 3 "_law_plus" s__law_plus [Str.ofString "_law_one", Str.ofString "_law_two"] (m__law_plus fuel)) : CalM false P w G mg base 4 "_law_dot" s__law_dot [Str.ofString "_law_some", Str.ofString "_law_others"] (m__law_dot fuel) :=
  calM_of (k := 3) D sc__law_dot (fun _ _ => rfl) fun f cdv A outer s H E fx => have hN := sc__law_dot.nd
    (z_cons (s_set (i := 2) (q_set 2 hN rfl (by first | exact Or.inl rfl | exact Or.inr rfl) rfl (by first | exact Or.inl rfl | exact Or.inr rfl) (d_tup (q_cons rfl d_int (q_cons rfl d_int a_nil)))))
    (z_cons (q_forZM fx rfl n_zip rfl rfl (fun _ => rfl) (q_cons rfl (q_var 0 rfl (by first | exact Or.inl rfl | exact Or.inr (Or.inl rfl) | exact Or.inr (Or.inr rfl)) rfl rfl) (q_cons rfl (q_var 1 rfl (by first | exact Or.inl rfl | exact Or.inr (Or.inl rfl) | exact Or.inr (Or.inr rfl)) rfl rfl) a_nil)) (q_tup fx rfl rfl (q_gcons rfl (q_name 3 hN rfl (by first | exact Or.inl rfl | exact Or.inr rfl) (by first | exact Or.inl rfl | exact Or.inr rfl)) (q_gcons rfl (q_name 4 hN rfl (by first | exact Or.inl rfl | exact Or.inr rfl) (by first | exact Or.inl rfl | exact Or.inr rfl)) pgs_nil))) (tg_pair fx.hK) (z_one (s_set (i := 2) (q_set 2 hN rfl (by first | exact Or.inl rfl | exact Or.inr rfl) rfl (by first | exact Or.inl rfl | exact Or.inr rfl) (q_call rfl fx c__law_plus (by decide) (by omega) rfl rfl rfl rfl (q_cons rfl (q_var 2 rfl (by first | exact Or.inl rfl | exact Or.inr (Or.inl rfl) | exact Or.inr (Or.inr rfl)) rfl rfl) (q_cons rfl (q_call rfl fx c__law_mult (by decide) (by omega) rfl rfl rfl rfl (q_cons rfl (q_var 3 rfl (by first | exact Or.inl rfl | exact Or.inr (Or.inl rfl) | exact Or.inr (Or.inr rfl)) rfl rfl) (q_cons rfl (q_var 4 rfl (by first | exact Or.inl rfl | exact Or.inr (Or.inl rfl) | exact Or.inr (Or.inr rfl)) rfl rfl) a_nil))) a_nil)))))))
    (z_one (s_ret (q_var 2 rfl (by first | exact Or.inl rfl | exact Or.inr (Or.inl rfl) | exact Or.inr (Or.inr rfl)) rfl rfl)))))
abbrev N__law_right : List Str := [Str.ofString "_law_mug_here", Str.ofString "_law_turn", Str.ofString "_law_draft_here", Str.ofString "_law_mine", Str.ofString "_law_many", Str.ofString "_law_amounts_here", Str.ofString "_law_bow", Str.ofString "_law_same", Str.ofString "_law_k", Str.ofString "_law_other_amounts", Str.ofString "_law_site", Str.ofString "_law_row_here", Str.ofString "_law_due", Str.ofString "_law_more"]
theorem sc__law_right : FnScope N__law_right [Str.ofString "_law_mug_here"] (defScope s__law_right) := ⟨rfl, rfl, rfl, by decide +kernel, rfl, by decide +kernel, by decide +kernel⟩
def b__law_right (fuel : Nat) : SM :=
    (sSeq (sForR rng1 (aCons (eC (.int 4)) aNil) (sBody (fun d rho => some (rho.set 1 (.va d))) (sSeq (sSet 2 (eOwn (m__law_draft fuel) (aLen 3 (aCons (eVar 0) (aCons (eC (.int 6)) (aCons (eOwn m__law_pick (aLen 2 (aCons (eVar 0) (aCons (eCall mLst (aCons (eC (.int 3)) (aCons (eC (.int 12)) (aCons (eBin powI (eC (.int 10)) (eC (.int 5))) aNil)))) aNil)))) aNil))))))
    (sSeq (sPar 3 4 (aCons (eOwn m__law_made (aLen 1 (aCons (eVar 2) aNil))) (aCons (eOwn m__law_hills (aLen 1 (aCons (eVar 2) aNil))) aNil)))
    (sSeq (sSet 5 (eOwn (m__law_amounts fuel) (aLen 2 (aCons (eVar 0) (aCons (eVar 4) aNil)))))
    (sSeq (sPar 6 7 (aCons (eMake 1 (lenI 2 i_Curve) (aLen 2 (aCons (eVar 3) (aCons (eVar 5) aNil)))) (aCons (eMakeK 1 (lenI 2 i_Curve) [1, 0] 2 (aCons (eVar 5) (aCons (eOwn m__law_made (aLen 1 (aCons (eVar 2) aNil))) aNil))) aNil)))
    (sSeq (sIf (bOr (bOf (eBin (orE (neO 0 m_Frame___eq__ (nfC 2)) neM) (eProp 1 m_Curve_frame (eVar 6)) (eVar 3))) (bOr (bOf (eBin neM (eProp 1 m_Curve_amounts (eVar 6)) (eVar 5))) (bOr (bNot (bOf (eBin (orE (eqO 1 m_Curve___eq__ (nfC 2)) eqM) (eVar 6) (eVar 7)))) (bOr (bOf (eBin (orE (neO 1 m_Curve___eq__ (nfC 2)) neM) (eVar 6) (eVar 7))) (bOr (bOf (eBin (orE (eqO 1 m_Curve___eq__ (nfC 2)) eqM) (eVar 6) (eVar 5))) (bNot (bTru (eCall (boolO 1 (m1 boolM)) (aCons (eVar 6) aNil))))))))) (sRet (eC (.bl false))) sNil)
    (sSeq (sSet 8 (eOwn m__law_sip (aLen 2 (aCons (eVar 0) (aCons (eVar 4) aNil)))))
    (sSeq (sSet 9 (eBin addA (eBin addA (eSl (eVar 5) oNone (oSome (eVar 8))) (eCall mTup (aCons (eOwn (m__law_plus fuel) (aLen 2 (aCons (eIx (eVar 5) (eVar 8)) (aCons (eCall mTup (aCons (eC (.int 1)) (aCons (eC (.int 3)) aNil))) aNil)))) aNil))) (eSl (eVar 5) (oSome (eBin addA (eVar 8) (eC (.int 1)))) oNone)))
    (sSeq (sIf (bOr (bOf (eBin (orE (eqO 1 m_Curve___eq__ (nfC 2)) eqM) (eVar 6) (eMake 1 (lenI 2 i_Curve) (aLen 2 (aCons (eVar 3) (aCons (eVar 9) aNil)))))) (bNot (bOf (eBin (orE (neO 1 m_Curve___eq__ (nfC 2)) neM) (eVar 6) (eMake 1 (lenI 2 i_Curve) (aLen 2 (aCons (eVar 3) (aCons (eVar 9) aNil)))))))) (sRet (eC (.bl false))) sNil)
    (sFor anyD (eOwn m__law_sites (aLen 3 (aCons (eVar 0) (aCons (eVar 2) (aCons (eC (.int 6)) aNil))))) (sBody (fun d rho => some (rho.set 10 (.va d))) (sSeq (sSet 11 (eOwn (m__law_row fuel) (aLen 3 (aCons (eIx (eVar 2) (eC (.int 0))) (aCons (eIx (eVar 2) (eC (.int 1))) (aCons (eCall mTup (aCons (eVar 10) (aCons (eC (.int 1)) aNil))) aNil))))))
    (sSeq (sSet 12 (eOwn (m__law_dot fuel) (aLen 2 (aCons (eVar 5) (aCons (eVar 11) aNil)))))
    (sSeq (sSet 13 (eMth 1 1 m_Curve_value (eMake 1 (lenI 2 i_Curve) (aLen 2 (aCons (eVar 3) (aCons (eVar 9) aNil)))) (aCons (eVar 10) aNil)))
    (sSeq (sIf (bOf (eBin neM (eCall (m1 reprM) (aCons (eCall mLst (aCons (eMth 1 1 m_Curve_value (eVar 6) (aCons (eVar 10) aNil)) (aCons (eMthK 1 1 [0] m_Curve_value (eVar 6) (aCons (eVar 10) aNil)) aNil))) aNil)) (eCall (m1 reprM) (aCons (eCall mLst (aCons (eVar 12) (aCons (eVar 12) aNil))) aNil)))) (sRet (eC (.bl false))) sNil)
    (sIf (bOf (eBin neM (eVar 13) (eOwn (m__law_plus fuel) (aLen 2 (aCons (eVar 12) (aCons (eOwn (m__law_mult fuel) (aLen 2 (aCons (eCall mTup (aCons (eC (.int 1)) (aCons (eC (.int 3)) aNil))) (aCons (eIx (eVar 11) (eVar 8)) aNil)))) aNil)))))) (sRet (eC (.bl false))) sNil)))))))))))))))))
    (sRet (eC (.bl true))))
def m__law_right (fuel : Nat) : FM := fnM 14 (b__law_right fuel)
theorem c__law_right (fuel : Nat) (D : DefM G mg "_law_right" s__law_right [Str.ofString "_law_mug_here"]) (n_bool : mg "bool" = none) (n_range : mg "range" = none) (n_repr : mg "repr" = none) (tab : IsTab G (tbC 2)) (fn_Curve : G.fn 1 = [Str.ofString "_frame", Str.ofString "_amounts"]) (ck_Curve : ClOk G 1) (p_Curve_amounts : ProM P w G mg base 1 1 "amounts" (m_Curve_amounts)) (p_Curve_frame : ProM P w G mg base 1 1 "frame" (m_Curve_frame)) (mk_Curve : MakM P w G mg base 4 "Curve" 1 2 (i_Curve)) (mkf_Curve : MakF P w G mg base 4 "Curve" 1 "Curve.__init__" s_Curve___init__ [Str.ofString "self", Str.ofString "frame", Str.ofString "amounts"] (i_Curve)) (tm_Curve_value : MthM P w G mg base 7 1 "value" 1 (m_Curve_value)) (t_Curve_value : MthF P w G mg base 7 1 "value" "Curve.value" s_Curve_value [Str.ofString "self", Str.ofString "place"] (m_Curve_value)) (E_Curve : EqM P w G mg base 3 1 (m_Curve___eq__) (nfC 2)) (E_Frame : EqM P w G mg base 1 0 (m_Frame___eq__) (nfC 2)) (nE_Curve : NeM G 1) (nE_Frame : NeM G 0) (tr_Curve : TruF G.K (G.ca 1)) (c__law_pick : CalM false P w G mg base 2 "_law_pick" s__law_pick [Str.ofString "_law_mug_here", Str.ofString "_law_menu"] (m__law_pick)) (c__law_draft : CalM false P w G mg base 3 "_law_draft" s__law_draft [Str.ofString "_law_mug_here", Str.ofString "_law_most_hills", Str.ofString "_law_most"] (m__law_draft fuel)) (c__law_made : CalM false P w G mg base 7 "_law_made" s__law_made [Str.ofString "_law_draft_here"] (m__law_made)) (c__law_hills : CalM false P w G mg base 1 "_law_hills" s__law_hills [Str.ofString "_law_draft_here"] (m__law_hills)) (c__law_amounts : CalM false P w G mg base 3 "_law_amounts" s__law_amounts [Str.ofString "_law_mug_here", Str.ofString "_law_many"] (m__law_amounts fuel)) (c__law_sip : CalM false P w G mg base 1 "_law_sip" s__law_sip [Str.ofString "_law_mug_here", Str.ofString "_law_top"] (m__law_sip)) (c__law_plus : CalM false P w G mg base 3 "_law_plus" s__law_plus [Str.ofString "_law_one", Str.ofString "_law_two"] (m__law_plus fuel)) (c__law_sites : CalM false P w G mg base 3 "_law_sites" s__law_sites [Str.ofString "_law_mug_here", Str.ofString "_law_draft_here", Str.ofString "_law_many"] (m__law_sites)) (c__law_row : CalM false P w G mg base 12 "_law_row" s__law_row [Str.ofString "_law_grade", Str.ofString "_law_bolts", Str.ofString "_law_x"] (m__law_row fuel)) (c__law_dot : CalM false P w G mg base 4 "_law_dot" s__law_dot [Str.ofString "_law_some", Str.ofString "_law_others"] (m__law_dot fuel)) (c__law_mult : CalM false P w G mg base 3 "_law_mult" s__law_mult [Str.ofString "_law_one", Str.ofString "_law_two"] (m__law_mult fuel)) : CalM true P w G mg base 13 "_law_right" s__law_right [Str.ofString "_law_mug_here"] (m__law_right fuel) :=
  calM_of (k := 12) D sc__law_right (fun _ _ => rfl) fun f cdv A outer s H E fx => have hN := sc__law_right.nd
    (z_cons (q_forR1 fx rfl n_range rfl (fun _ => rfl) (q_cons rfl d_int a_nil) (q_name 1 hN rfl (by first | exact Or.inl rfl | exact Or.inr rfl) (by first | exact Or.inl rfl | exact Or.inr rfl)) tg_name (z_cons (s_set (i := 2) (q_set 2 hN rfl (by first | exact Or.inl rfl | exact Or.inr rfl) rfl (by first | exact Or.inl rfl | exact Or.inr rfl) (q_call rfl fx c__law_draft (by decide) (by omega) rfl rfl rfl rfl (q_cons rfl (q_var 0 rfl (by first | exact Or.inl rfl | exact Or.inr (Or.inl rfl) | exact Or.inr (Or.inr rfl)) rfl rfl) (q_cons rfl d_int (q_cons rfl (q_call rfl fx c__law_pick (by decide) (by omega) rfl rfl rfl rfl (q_cons rfl (q_var 0 rfl (by first | exact Or.inl rfl | exact Or.inr (Or.inl rfl) | exact Or.inr (Or.inr rfl)) rfl rfl) (q_cons rfl (d_lst (q_cons rfl d_int (q_cons rfl d_int (q_cons rfl (x_pow fx d_int d_int) a_nil)))) a_nil))) a_nil))))))
    (z_cons (s_par (ps_par (i := 3) (j := 4) fx.calm hN rfl rfl (by decide) rfl rfl (q_cons rfl (q_call rfl fx c__law_made (by decide) (by omega) rfl rfl rfl rfl (q_cons rfl (q_var 2 rfl (by first | exact Or.inl rfl | exact Or.inr (Or.inl rfl) | exact Or.inr (Or.inr rfl)) rfl rfl) a_nil)) (q_cons rfl (q_call rfl fx c__law_hills (by decide) (by omega) rfl rfl rfl rfl (q_cons rfl (q_var 2 rfl (by first | exact Or.inl rfl | exact Or.inr (Or.inl rfl) | exact Or.inr (Or.inr rfl)) rfl rfl) a_nil)) a_nil)) rfl))
    (z_cons (s_set (i := 5) (q_set 5 hN rfl (by first | exact Or.inl rfl | exact Or.inr rfl) rfl (by first | exact Or.inl rfl | exact Or.inr rfl) (q_call rfl fx c__law_amounts (by decide) (by omega) rfl rfl rfl rfl (q_cons rfl (q_var 0 rfl (by first | exact Or.inl rfl | exact Or.inr (Or.inl rfl) | exact Or.inr (Or.inr rfl)) rfl rfl) (q_cons rfl (q_var 4 rfl (by first | exact Or.inl rfl | exact Or.inr (Or.inl rfl) | exact Or.inr (Or.inr rfl)) rfl rfl) a_nil)))))
    (z_cons (s_par (ps_par (i := 6) (j := 7) fx.calm hN rfl rfl (by decide) rfl rfl (q_cons rfl (q_makeN (by rw [fn_Curve]; rfl) flat_def fx mk_Curve (by decide) rfl rfl rfl rfl (q_cons rfl (q_var 3 rfl (by first | exact Or.inl rfl | exact Or.inr (Or.inl rfl) | exact Or.inr (Or.inr rfl)) rfl rfl) (q_cons rfl (q_var 5 rfl (by first | exact Or.inl rfl | exact Or.inr (Or.inl rfl) | exact Or.inr (Or.inr rfl)) rfl rfl) a_nil))) (q_cons rfl (q_makeK (ks := [Str.ofString "amounts", Str.ofString "frame"]) [1, 0] (by rw [fn_Curve]; rfl) rfl rfl flat_def fx mkf_Curve (by decide) rfl (by decide) (fun _ _ _ _ _ _ _ ws hl => match ws, hl with | [_, _], _ => rfl) rfl rfl rfl (k_cons (q_var 5 rfl (by first | exact Or.inl rfl | exact Or.inr (Or.inl rfl) | exact Or.inr (Or.inr rfl)) rfl rfl) (k_cons (q_call rfl fx c__law_made (by decide) (by omega) rfl rfl rfl rfl (q_cons rfl (q_var 2 rfl (by first | exact Or.inl rfl | exact Or.inr (Or.inl rfl) | exact Or.inr (Or.inr rfl)) rfl rfl) a_nil)) k_nil))) a_nil)) rfl))
    (z_cons (s_if (PW.pt (w_or (y_cmp fx (cp_neO fx E_Frame nE_Frame (by decide) tab (nfC_tab 2) (cp_ne fx)) (q_prop fx p_Curve_frame (by decide) rfl (q_var 6 rfl (by first | exact Or.inl rfl | exact Or.inr (Or.inl rfl) | exact Or.inr (Or.inr rfl)) rfl rfl)) (q_var 3 rfl (by first | exact Or.inl rfl | exact Or.inr (Or.inl rfl) | exact Or.inr (Or.inr rfl)) rfl rfl) (nomark _)) (w_or (y_cmp fx (cp_ne fx) (q_prop fx p_Curve_amounts (by decide) rfl (q_var 6 rfl (by first | exact Or.inl rfl | exact Or.inr (Or.inl rfl) | exact Or.inr (Or.inr rfl)) rfl rfl)) (q_var 5 rfl (by first | exact Or.inl rfl | exact Or.inr (Or.inl rfl) | exact Or.inr (Or.inr rfl)) rfl rfl) (nomark _)) (w_or (t_not (y_cmp fx (cp_eqO fx E_Curve (by decide) tab (nfC_tab 2) (cp_eq fx)) (q_var 6 rfl (by first | exact Or.inl rfl | exact Or.inr (Or.inl rfl) | exact Or.inr (Or.inr rfl)) rfl rfl) (q_var 7 rfl (by first | exact Or.inl rfl | exact Or.inr (Or.inl rfl) | exact Or.inr (Or.inr rfl)) rfl rfl) (nomark _))) (w_or (y_cmp fx (cp_neO fx E_Curve nE_Curve (by decide) tab (nfC_tab 2) (cp_ne fx)) (q_var 6 rfl (by first | exact Or.inl rfl | exact Or.inr (Or.inl rfl) | exact Or.inr (Or.inr rfl)) rfl rfl) (q_var 7 rfl (by first | exact Or.inl rfl | exact Or.inr (Or.inl rfl) | exact Or.inr (Or.inr rfl)) rfl rfl) (nomark _)) (w_or (y_cmp fx (cp_eqO fx E_Curve (by decide) tab (nfC_tab 2) (cp_eq fx)) (q_var 6 rfl (by first | exact Or.inl rfl | exact Or.inr (Or.inl rfl) | exact Or.inr (Or.inr rfl)) rfl rfl) (q_var 5 rfl (by first | exact Or.inl rfl | exact Or.inr (Or.inl rfl) | exact Or.inr (Or.inr rfl)) rfl rfl) (nomark _)) (w_or1 (t_not (t_tru fx.hK (q_bi fx (bi_boolX (bi_boolO fx.toFx0 tr_Curve bool_base) n_bool) rfl (by decide) rfl rfl rfl (q_cons rfl (q_var 6 rfl (by first | exact Or.inl rfl | exact Or.inr (Or.inl rfl) | exact Or.inr (Or.inr rfl)) rfl rfl) a_nil)) (fun _ => rfl)))))))))) (z_one (s_ret d_bl)) z_nil)
    (z_cons (s_set (i := 8) (q_set 8 hN rfl (by first | exact Or.inl rfl | exact Or.inr rfl) rfl (by first | exact Or.inl rfl | exact Or.inr rfl) (q_call rfl fx c__law_sip (by decide) (by omega) rfl rfl rfl rfl (q_cons rfl (q_var 0 rfl (by first | exact Or.inl rfl | exact Or.inr (Or.inl rfl) | exact Or.inr (Or.inr rfl)) rfl rfl) (q_cons rfl (q_var 4 rfl (by first | exact Or.inl rfl | exact Or.inr (Or.inl rfl) | exact Or.inr (Or.inr rfl)) rfl rfl) a_nil)))))
    (z_cons (s_set (i := 9) (q_set 9 hN rfl (by first | exact Or.inl rfl | exact Or.inr rfl) rfl (by first | exact Or.inl rfl | exact Or.inr rfl) (x_add fx (x_add fx (d_sl fx.hK (q_var 5 rfl (by first | exact Or.inl rfl | exact Or.inr (Or.inl rfl) | exact Or.inr (Or.inr rfl)) rfl rfl) o_none (o_some (q_var 8 rfl (by first | exact Or.inl rfl | exact Or.inr (Or.inl rfl) | exact Or.inr (Or.inr rfl)) rfl rfl))) (d_tup (q_cons rfl (q_call rfl fx c__law_plus (by decide) (by omega) rfl rfl rfl rfl (q_cons rfl (x_ix fx (q_var 5 rfl (by first | exact Or.inl rfl | exact Or.inr (Or.inl rfl) | exact Or.inr (Or.inr rfl)) rfl rfl) (q_var 8 rfl (by first | exact Or.inl rfl | exact Or.inr (Or.inl rfl) | exact Or.inr (Or.inr rfl)) rfl rfl) (fun _ _ => rfl)) (q_cons rfl (d_tup (q_cons rfl d_int (q_cons rfl d_int a_nil))) a_nil))) a_nil))) (d_sl fx.hK (q_var 5 rfl (by first | exact Or.inl rfl | exact Or.inr (Or.inl rfl) | exact Or.inr (Or.inr rfl)) rfl rfl) (o_some (x_add fx (q_var 8 rfl (by first | exact Or.inl rfl | exact Or.inr (Or.inl rfl) | exact Or.inr (Or.inr rfl)) rfl rfl) d_int)) o_none))))
    (z_cons (s_if (PW.pt (w_or (y_cmp fx (cp_eqO fx E_Curve (by decide) tab (nfC_tab 2) (cp_eq fx)) (q_var 6 rfl (by first | exact Or.inl rfl | exact Or.inr (Or.inl rfl) | exact Or.inr (Or.inr rfl)) rfl rfl) (q_makeN (by rw [fn_Curve]; rfl) flat_def fx mk_Curve (by decide) rfl rfl rfl rfl (q_cons rfl (q_var 3 rfl (by first | exact Or.inl rfl | exact Or.inr (Or.inl rfl) | exact Or.inr (Or.inr rfl)) rfl rfl) (q_cons rfl (q_var 9 rfl (by first | exact Or.inl rfl | exact Or.inr (Or.inl rfl) | exact Or.inr (Or.inr rfl)) rfl rfl) a_nil))) (nomark _)) (w_or1 (t_not (y_cmp fx (cp_neO fx E_Curve nE_Curve (by decide) tab (nfC_tab 2) (cp_ne fx)) (q_var 6 rfl (by first | exact Or.inl rfl | exact Or.inr (Or.inl rfl) | exact Or.inr (Or.inr rfl)) rfl rfl) (q_makeN (by rw [fn_Curve]; rfl) flat_def fx mk_Curve (by decide) rfl rfl rfl rfl (q_cons rfl (q_var 3 rfl (by first | exact Or.inl rfl | exact Or.inr (Or.inl rfl) | exact Or.inr (Or.inr rfl)) rfl rfl) (q_cons rfl (q_var 9 rfl (by first | exact Or.inl rfl | exact Or.inr (Or.inl rfl) | exact Or.inr (Or.inr rfl)) rfl rfl) a_nil))) (nomark _)))))) (z_one (s_ret d_bl)) z_nil)
    (z_one (q_forA fx (fun _ => rfl) (q_call rfl fx c__law_sites (by decide) (by omega) rfl rfl rfl rfl (q_cons rfl (q_var 0 rfl (by first | exact Or.inl rfl | exact Or.inr (Or.inl rfl) | exact Or.inr (Or.inr rfl)) rfl rfl) (q_cons rfl (q_var 2 rfl (by first | exact Or.inl rfl | exact Or.inr (Or.inl rfl) | exact Or.inr (Or.inr rfl)) rfl rfl) (q_cons rfl d_int a_nil)))) (q_name 10 hN rfl (by first | exact Or.inl rfl | exact Or.inr rfl) (by first | exact Or.inl rfl | exact Or.inr rfl)) tg_name (z_cons (s_set (i := 11) (q_set 11 hN rfl (by first | exact Or.inl rfl | exact Or.inr rfl) rfl (by first | exact Or.inl rfl | exact Or.inr rfl) (q_call rfl fx c__law_row (by decide) (by omega) rfl rfl rfl rfl (q_cons rfl (x_ix fx (q_var 2 rfl (by first | exact Or.inl rfl | exact Or.inr (Or.inl rfl) | exact Or.inr (Or.inr rfl)) rfl rfl) d_int (fun _ _ => rfl)) (q_cons rfl (x_ix fx (q_var 2 rfl (by first | exact Or.inl rfl | exact Or.inr (Or.inl rfl) | exact Or.inr (Or.inr rfl)) rfl rfl) d_int (fun _ _ => rfl)) (q_cons rfl (d_tup (q_cons rfl (q_var 10 rfl (by first | exact Or.inl rfl | exact Or.inr (Or.inl rfl) | exact Or.inr (Or.inr rfl)) rfl rfl) (q_cons rfl d_int a_nil))) a_nil))))))
    (z_cons (s_set (i := 12) (q_set 12 hN rfl (by first | exact Or.inl rfl | exact Or.inr rfl) rfl (by first | exact Or.inl rfl | exact Or.inr rfl) (q_call rfl fx c__law_dot (by decide) (by omega) rfl rfl rfl rfl (q_cons rfl (q_var 5 rfl (by first | exact Or.inl rfl | exact Or.inr (Or.inl rfl) | exact Or.inr (Or.inr rfl)) rfl rfl) (q_cons rfl (q_var 11 rfl (by first | exact Or.inl rfl | exact Or.inr (Or.inl rfl) | exact Or.inr (Or.inr rfl)) rfl rfl) a_nil)))))
    (z_cons (s_set (i := 13) (q_set 13 hN rfl (by first | exact Or.inl rfl | exact Or.inr rfl) rfl (by first | exact Or.inl rfl | exact Or.inr rfl) (q_meth flat_def fx tm_Curve_value (by decide) (by rw [fn_Curve]; decide) rfl rfl rfl (q_makeN (by rw [fn_Curve]; rfl) flat_def fx mk_Curve (by decide) rfl rfl rfl rfl (q_cons rfl (q_var 3 rfl (by first | exact Or.inl rfl | exact Or.inr (Or.inl rfl) | exact Or.inr (Or.inr rfl)) rfl rfl) (q_cons rfl (q_var 9 rfl (by first | exact Or.inl rfl | exact Or.inr (Or.inl rfl) | exact Or.inr (Or.inr rfl)) rfl rfl) a_nil))) (q_cons rfl (q_var 10 rfl (by first | exact Or.inl rfl | exact Or.inr (Or.inl rfl) | exact Or.inr (Or.inr rfl)) rfl rfl) a_nil))))
    (z_cons (s_if (y_cmp fx (cp_ne fx) (q_bi fx (bi_repr fx n_repr) rfl (by decide) rfl rfl rfl (q_cons rfl (d_lst (q_cons rfl (q_meth flat_def fx tm_Curve_value (by decide) (by rw [fn_Curve]; decide) rfl rfl rfl (q_var 6 rfl (by first | exact Or.inl rfl | exact Or.inr (Or.inl rfl) | exact Or.inr (Or.inr rfl)) rfl rfl) (q_cons rfl (q_var 10 rfl (by first | exact Or.inl rfl | exact Or.inr (Or.inl rfl) | exact Or.inr (Or.inr rfl)) rfl rfl) a_nil)) (q_cons rfl (q_methK (ks := [Str.ofString "place"]) [0] rfl rfl flat_def fx t_Curve_value (by decide) (by rw [fn_Curve]; decide) (fun _ _ _ _ _ _ _ ws hl => match ws, hl with | [_], _ => rfl) rfl rfl rfl rfl (q_var 6 rfl (by first | exact Or.inl rfl | exact Or.inr (Or.inl rfl) | exact Or.inr (Or.inr rfl)) rfl rfl) (k_cons (q_var 10 rfl (by first | exact Or.inl rfl | exact Or.inr (Or.inl rfl) | exact Or.inr (Or.inr rfl)) rfl rfl) k_nil)) a_nil))) a_nil)) (q_bi fx (bi_repr fx n_repr) rfl (by decide) rfl rfl rfl (q_cons rfl (d_lst (q_cons rfl (q_var 12 rfl (by first | exact Or.inl rfl | exact Or.inr (Or.inl rfl) | exact Or.inr (Or.inr rfl)) rfl rfl) (q_cons rfl (q_var 12 rfl (by first | exact Or.inl rfl | exact Or.inr (Or.inl rfl) | exact Or.inr (Or.inr rfl)) rfl rfl) a_nil))) a_nil)) (nomark _)) (z_one (s_ret d_bl)) z_nil)
    (z_one (s_if (y_cmp fx (cp_ne fx) (q_var 13 rfl (by first | exact Or.inl rfl | exact Or.inr (Or.inl rfl) | exact Or.inr (Or.inr rfl)) rfl rfl) (q_call rfl fx c__law_plus (by decide) (by omega) rfl rfl rfl rfl (q_cons rfl (q_var 12 rfl (by first | exact Or.inl rfl | exact Or.inr (Or.inl rfl) | exact Or.inr (Or.inr rfl)) rfl rfl) (q_cons rfl (q_call rfl fx c__law_mult (by decide) (by omega) rfl rfl rfl rfl (q_cons rfl (d_tup (q_cons rfl d_int (q_cons rfl d_int a_nil))) (q_cons rfl (x_ix fx (q_var 11 rfl (by first | exact Or.inl rfl | exact Or.inr (Or.inl rfl) | exact Or.inr (Or.inr rfl)) rfl rfl) (q_var 8 rfl (by first | exact Or.inl rfl | exact Or.inr (Or.inl rfl) | exact Or.inr (Or.inr rfl)) rfl rfl) (fun _ _ => rfl)) a_nil))) a_nil))) (nomark _)) (z_one (s_ret d_bl)) z_nil)))))))))))))))))
    (z_one (s_ret d_bl)))
abbrev N__law_mug : List Str := [Str.ofString "_law_script", Str.ofString "_law_turn", Str.ofString "_law_entry", Str.ofString "_law_stirred", Str.ofString "_law_each"]
theorem sc__law_mug : FnScope N__law_mug [Str.ofString "_law_script", Str.ofString "_law_turn"] (defScope s__law_mug) := ⟨rfl, rfl, rfl, by decide +kernel, rfl, by decide +kernel, by decide +kernel⟩
def b__law_mug : SM :=
    (sSeq (sSet 2 (eIf (bOf (eBin ltM (eVar 1) (eCall (m1 lenD) (aCons (eVar 0) aNil)))) (eCall (m1 intM) (aCons (eIx (eVar 0) (eVar 1)) aNil)) (eBin addA (eBin mulA (eC (.int 59)) (eVar 1)) (eC (.int 13)))))
    (sSeq (sSet 3 (eBin addA (eC (.int 30011)) (eBin mulA (eC (.int 811)) (eVar 1))))
    (sSeq (sFor anyD (eSl (eVar 0) oNone (oSome (eC (.int 8)))) (sBody (fun d rho => some (rho.set 4 (.va d))) (sSet 3 (eBin modA (eCall (m1 intM) (aCons (eBin addA (eBin addA (eBin mulA (eVar 3) (eC (.int 39373))) (eBin modA (eCall (m1 intM) (aCons (eVar 4) aNil)) (eC (.int 999959)))) (eVar 1)) aNil)) (eC (.int 2147483563))))))
    (sSeq (sSet 3 (eBin modA (eCall (m1 intM) (aCons (eBin addA (eBin mulA (eVar 3) (eC (.int 39373))) (eBin modA (eCall (m1 intM) (aCons (eVar 2) aNil)) (eC (.int 999959)))) aNil)) (eC (.int 2147483563))))
    (sRetF (eCall mLst (aCons (eIf (bOf (eBin geM (eCall (m1 absM) (aCons (eVar 2) aNil)) (eBin powI (eC (.int 10)) (eC (.int 18))))) (eCall (m1 absM) (aCons (eVar 2) aNil)) (eC (.int 0))) (aCons (eVar 3) (aCons (eC (.int 0)) aNil)))))))))
def m__law_mug : FM := fnM 5 (b__law_mug)
theorem c__law_mug (D : DefM G mg "_law_mug" s__law_mug [Str.ofString "_law_script", Str.ofString "_law_turn"]) (n_abs : mg "abs" = none) (n_int : mg "int" = none) (n_len : mg "len" = none) : CalM false P w G mg base 1 "_law_mug" s__law_mug [Str.ofString "_law_script", Str.ofString "_law_turn"] (m__law_mug) :=
  calM_of (k := 0) D sc__law_mug (fun _ _ => rfl) fun f cdv A outer s H E fx => have hN := sc__law_mug.nd
    (z_cons (s_set (i := 2) (q_set 2 hN rfl (by first | exact Or.inl rfl | exact Or.inr rfl) rfl (by first | exact Or.inl rfl | exact Or.inr rfl) (d_if (y_cmp fx cp_lt (q_var 1 rfl (by first | exact Or.inl rfl | exact Or.inr (Or.inl rfl) | exact Or.inr (Or.inr rfl)) rfl rfl) (q_bi fx (bi_len fx.toFx0 n_len) rfl (by decide) rfl rfl rfl (q_cons rfl (q_var 0 rfl (by first | exact Or.inl rfl | exact Or.inr (Or.inl rfl) | exact Or.inr (Or.inr rfl)) rfl rfl) a_nil)) (nomark _)) (q_bi fx (bi_int fx.toFx0 n_int) rfl (by decide) rfl rfl rfl (q_cons rfl (x_ix fx (q_var 0 rfl (by first | exact Or.inl rfl | exact Or.inr (Or.inl rfl) | exact Or.inr (Or.inr rfl)) rfl rfl) (q_var 1 rfl (by first | exact Or.inl rfl | exact Or.inr (Or.inl rfl) | exact Or.inr (Or.inr rfl)) rfl rfl) (fun _ _ => rfl)) a_nil)) (x_add fx (x_mul fx d_int (q_var 1 rfl (by first | exact Or.inl rfl | exact Or.inr (Or.inl rfl) | exact Or.inr (Or.inr rfl)) rfl rfl)) d_int))))
    (z_cons (s_set (i := 3) (q_set 3 hN rfl (by first | exact Or.inl rfl | exact Or.inr rfl) rfl (by first | exact Or.inl rfl | exact Or.inr rfl) (x_add fx d_int (x_mul fx d_int (q_var 1 rfl (by first | exact Or.inl rfl | exact Or.inr (Or.inl rfl) | exact Or.inr (Or.inr rfl)) rfl rfl)))))
    (z_cons (q_forA fx (fun _ => rfl) (d_sl fx.hK (q_var 0 rfl (by first | exact Or.inl rfl | exact Or.inr (Or.inl rfl) | exact Or.inr (Or.inr rfl)) rfl rfl) o_none (o_some d_int)) (q_name 4 hN rfl (by first | exact Or.inl rfl | exact Or.inr rfl) (by first | exact Or.inl rfl | exact Or.inr rfl)) tg_name (z_one (s_set (i := 3) (q_set 3 hN rfl (by first | exact Or.inl rfl | exact Or.inr rfl) rfl (by first | exact Or.inl rfl | exact Or.inr rfl) (x_mod fx (q_bi fx (bi_int fx.toFx0 n_int) rfl (by decide) rfl rfl rfl (q_cons rfl (x_add fx (x_add fx (x_mul fx (q_var 3 rfl (by first | exact Or.inl rfl | exact Or.inr (Or.inl rfl) | exact Or.inr (Or.inr rfl)) rfl rfl) d_int) (x_mod fx (q_bi fx (bi_int fx.toFx0 n_int) rfl (by decide) rfl rfl rfl (q_cons rfl (q_var 4 rfl (by first | exact Or.inl rfl | exact Or.inr (Or.inl rfl) | exact Or.inr (Or.inr rfl)) rfl rfl) a_nil)) d_int)) (q_var 1 rfl (by first | exact Or.inl rfl | exact Or.inr (Or.inl rfl) | exact Or.inr (Or.inr rfl)) rfl rfl)) a_nil)) d_int)))))
    (z_cons (s_set (i := 3) (q_set 3 hN rfl (by first | exact Or.inl rfl | exact Or.inr rfl) rfl (by first | exact Or.inl rfl | exact Or.inr rfl) (x_mod fx (q_bi fx (bi_int fx.toFx0 n_int) rfl (by decide) rfl rfl rfl (q_cons rfl (x_add fx (x_mul fx (q_var 3 rfl (by first | exact Or.inl rfl | exact Or.inr (Or.inl rfl) | exact Or.inr (Or.inr rfl)) rfl rfl) d_int) (x_mod fx (q_bi fx (bi_int fx.toFx0 n_int) rfl (by decide) rfl rfl rfl (q_cons rfl (q_var 2 rfl (by first | exact Or.inl rfl | exact Or.inr (Or.inl rfl) | exact Or.inr (Or.inr rfl)) rfl rfl) a_nil)) d_int)) a_nil)) d_int)))
    (z_one (s_retF (d_lst (q_cons rfl (d_if (y_cmp fx cp_ge (q_bi fx (bi_abs fx.toFx0 n_abs) rfl (by decide) rfl rfl rfl (q_cons rfl (q_var 2 rfl (by first | exact Or.inl rfl | exact Or.inr (Or.inl rfl) | exact Or.inr (Or.inr rfl)) rfl rfl) a_nil)) (x_pow fx d_int d_int) (nomark _)) (q_bi fx (bi_abs fx.toFx0 n_abs) rfl (by decide) rfl rfl rfl (q_cons rfl (q_var 2 rfl (by first | exact Or.inl rfl | exact Or.inr (Or.inl rfl) | exact Or.inr (Or.inr rfl)) rfl rfl) a_nil)) d_int) (q_cons rfl (q_var 3 rfl (by first | exact Or.inl rfl | exact Or.inr (Or.inl rfl) | exact Or.inr (Or.inr rfl)) rfl rfl) (q_cons rfl d_int a_nil))))))))))
abbrev N_law : List Str := [Str.ofString "_law_script", Str.ofString "_law_roof", Str.ofString "_law_turn"]
theorem sc_law : FnScope N_law [Str.ofString "_law_script"] (defScope s_law) := ⟨rfl, rfl, rfl, by decide +kernel, rfl, by decide +kernel, by decide +kernel⟩
def b_law (fuel : Nat) : SM :=
    (sSeq (sSet 1 (eMake 1 (lenI 2 i_Curve) (aLen 2 (aCons (eMake 0 (lenI 2 i_Frame) (aLen 2 (aCons (eC (.int 1)) (aCons (eCall mTup (aCons (eC (.int 0)) (aCons (eC (.int 2)) (aCons (eC (.int 4)) (aCons (eC (.int 6)) aNil))))) aNil)))) (aCons (eCall mTup (aCons (eCall mTup (aCons (eC (.int 3)) (aCons (eC (.int 1)) aNil))) (aCons (eCall mTup (aCons (eC (.int 1)) (aCons (eC (.int 1)) aNil))) aNil))) aNil)))))
    (sSeq (sIf (bOf (eBin neM (eCall mLst (aCons (eMth 1 1 m_Curve_value (eVar 1) (aCons (eC (.int 1)) aNil)) (aCons (eMth 1 1 m_Curve_value (eVar 1) (aCons (eC (.int 3)) aNil)) (aCons (eMth 1 1 m_Curve_value (eVar 1) (aCons (eC (.int 6)) aNil)) (aCons (eMth 1 1 m_Curve_value (eVar 1) (aCons (eC (.int 2)) aNil)) aNil))))) (eCall mLst (aCons (eCall mTup (aCons (eC (.int 3)) (aCons (eC (.int 2)) aNil))) (aCons (eCall mTup (aCons (eC (.int 2)) (aCons (eC (.int 1)) aNil))) (aCons (eCall mTup (aCons (eC (.int 0)) (aCons (eC (.int 1)) aNil))) (aCons (eCall mTup (aCons (eC (.int 3)) (aCons (eC (.int 1)) aNil))) aNil))))))) (sRet (eC (.bl false))) sNil)
    (sRet (eCall (m1 allM) (aCons (eLcR rng1 (aCons (eCall (orC (m2 maxM) (m1 maxL)) (aCons (eC (.int 2)) (aCons (eCall (orC (m2 minM) (m1 minL)) (aCons (eCall (m1 lenD) (aCons (eVar 0) aNil)) (aCons (eC (.int 5)) aNil))) aNil))) aNil) (fun d rho => some (rho.set 2 (.va d))) [2] bYes (eMug (m__law_right fuel) (eOwn m__law_mug (aLen 2 (aCons (eVar 0) (aCons (eVar 2) aNil)))))) aNil)))))
def m_law (fuel : Nat) : FM := fnM 3 (b_law fuel)
theorem c_law (fuel : Nat) (D : DefM G mg "law" s_law [Str.ofString "_law_script"]) (n_all : mg "all" = none) (n_len : mg "len" = none) (n_max : mg "max" = none) (n_min : mg "min" = none) (n_range : mg "range" = none) (fn_Curve : G.fn 1 = [Str.ofString "_frame", Str.ofString "_amounts"]) (ck_Curve : ClOk G 1) (fn_Frame : G.fn 0 = [Str.ofString "_degree", Str.ofString "_knots"]) (ck_Frame : ClOk G 0) (mk_Curve : MakM P w G mg base 4 "Curve" 1 2 (i_Curve)) (mk_Frame : MakM P w G mg base 5 "Frame" 0 2 (i_Frame)) (tm_Curve_value : MthM P w G mg base 7 1 "value" 1 (m_Curve_value)) (c__law_mug : CalM false P w G mg base 1 "_law_mug" s__law_mug [Str.ofString "_law_script", Str.ofString "_law_turn"] (m__law_mug)) (c__law_right : CalM true P w G mg base 13 "_law_right" s__law_right [Str.ofString "_law_mug_here"] (m__law_right fuel)) : CalM true P w G mg base 14 "law" s_law [Str.ofString "_law_script"] (m_law fuel) :=
  calM_of (k := 13) D sc_law (fun _ _ => rfl) fun f cdv A outer s H E fx => have hN := sc_law.nd
    (z_cons (s_set (i := 1) (q_set 1 hN rfl (by first | exact Or.inl rfl | exact Or.inr rfl) rfl (by first | exact Or.inl rfl | exact Or.inr rfl) (q_makeN (by rw [fn_Curve]; rfl) flat_def fx mk_Curve (by decide) rfl rfl rfl rfl (q_cons rfl (q_makeN (by rw [fn_Frame]; rfl) flat_def fx mk_Frame (by decide) rfl rfl rfl rfl (q_cons rfl d_int (q_cons rfl (d_tup (q_cons rfl d_int (q_cons rfl d_int (q_cons rfl d_int (q_cons rfl d_int a_nil))))) a_nil))) (q_cons rfl (d_tup (q_cons rfl (d_tup (q_cons rfl d_int (q_cons rfl d_int a_nil))) (q_cons rfl (d_tup (q_cons rfl d_int (q_cons rfl d_int a_nil))) a_nil))) a_nil)))))
    (z_cons (s_if (y_cmp fx (cp_ne fx) (d_lst (q_cons rfl (q_meth flat_def fx tm_Curve_value (by decide) (by rw [fn_Curve]; decide) rfl rfl rfl (q_var 1 rfl (by first | exact Or.inl rfl | exact Or.inr (Or.inl rfl) | exact Or.inr (Or.inr rfl)) rfl rfl) (q_cons rfl d_int a_nil)) (q_cons rfl (q_meth flat_def fx tm_Curve_value (by decide) (by rw [fn_Curve]; decide) rfl rfl rfl (q_var 1 rfl (by first | exact Or.inl rfl | exact Or.inr (Or.inl rfl) | exact Or.inr (Or.inr rfl)) rfl rfl) (q_cons rfl d_int a_nil)) (q_cons rfl (q_meth flat_def fx tm_Curve_value (by decide) (by rw [fn_Curve]; decide) rfl rfl rfl (q_var 1 rfl (by first | exact Or.inl rfl | exact Or.inr (Or.inl rfl) | exact Or.inr (Or.inr rfl)) rfl rfl) (q_cons rfl d_int a_nil)) (q_cons rfl (q_meth flat_def fx tm_Curve_value (by decide) (by rw [fn_Curve]; decide) rfl rfl rfl (q_var 1 rfl (by first | exact Or.inl rfl | exact Or.inr (Or.inl rfl) | exact Or.inr (Or.inr rfl)) rfl rfl) (q_cons rfl d_int a_nil)) a_nil))))) (d_lst (q_cons rfl (d_tup (q_cons rfl d_int (q_cons rfl d_int a_nil))) (q_cons rfl (d_tup (q_cons rfl d_int (q_cons rfl d_int a_nil))) (q_cons rfl (d_tup (q_cons rfl d_int (q_cons rfl d_int a_nil))) (q_cons rfl (d_tup (q_cons rfl d_int (q_cons rfl d_int a_nil))) a_nil))))) (nomark _)) (z_one (s_ret d_bl)) z_nil)
    (z_one (s_ret (q_bi fx (bi_all fx n_all) rfl (by decide) rfl rfl rfl (q_cons rfl (q_lcR1 [(Str.ofString "_law_turn", 2)] fx hN rfl n_range rfl (fun _ => rfl) (by kernel_rfl) (q_cons rfl (q_bi fx (bi_max fx n_max) rfl (by decide) rfl rfl rfl (q_cons rfl d_int (q_cons rfl (q_bi fx (bi_min fx n_min) rfl (by decide) rfl rfl rfl (q_cons rfl (q_bi fx (bi_len fx.toFx0 n_len) rfl (by decide) rfl rfl rfl (q_cons rfl (q_var 0 rfl (by first | exact Or.inl rfl | exact Or.inr (Or.inl rfl) | exact Or.inr (Or.inr rfl)) rfl rfl) a_nil)) (q_cons rfl d_int a_nil))) a_nil))) a_nil) (fun s H C cl fp fy => (q_name 2 hN rfl (by first | exact Or.inl rfl | exact Or.inr rfl) (by first | exact Or.inl rfl | exact Or.inr rfl))) (tl_name (by decide)) (fun s H C cl fp fy => ts_nil) (fun s H C cl fp fy => (q_mug rfl fy c__law_right (by decide) (by omega) rfl rfl rfl rfl (q_call rfl fy c__law_mug (by decide) (by omega) rfl rfl rfl rfl (q_cons rfl (q_var 0 rfl (by first | exact Or.inl rfl | exact Or.inr (Or.inl rfl) | exact Or.inr (Or.inr rfl)) rfl rfl) (q_cons rfl (q_var 2 rfl (by first | exact Or.inl rfl | exact Or.inr (Or.inl rfl) | exact Or.inr (Or.inr rfl)) rfl rfl) a_nil)))))) a_nil))))))
theorem facts {P : Program} {w : World} {K : PySem.W.Frag} {h : Heap} {mg : Str → Option Value} (X : K.In h) (Gs : h.Ns mainGlobals mg) (c : SaysM exB mds K) (base : Heap) : CalM true P w (clOf K xs []) mg base 14 "law" s_law [Str.ofString "_law_script"] (m_law (2 ^ 8000)) := by
  have xb := (Bool.and_eq_true_iff.mp c.more).1
  have cm := (Bool.and_eq_true_iff.mp c.more).2
  have fa : ∀ f ∈ fas, f.ok K = true := List.all_eq_true.mp (Bool.and_eq_true_iff.mp cm).1
  have fb := (Bool.and_eq_true_iff.mp cm).2
  have tb := (Bool.and_eq_true_iff.mp fb).1
  have pb := (Bool.and_eq_true_iff.mp (Bool.and_eq_true_iff.mp fb).2).1
  have mb := (Bool.and_eq_true_iff.mp (Bool.and_eq_true_iff.mp fb).2).2
  have at_ : ∀ (i : Nat) {f : He.Fa}, fas[i]? = some f → f.ok K = true := fun i f e => fa f (List.mem_of_getElem? e)
  have tab : IsTab (clOf K xs []) (tbC 2) := isTab_of (facts_pre (xs := xs0) (ys := xs1) (by decide +kernel) tb)
  have n_bool : mg (Str.ofString "bool") = none := He.free_ok X Gs (at_ 1 rfl)
  have n_int : mg (Str.ofString "int") = none := He.free_ok X Gs (at_ 2 rfl)
  have n_isinstance : mg (Str.ofString "isinstance") = none := He.free_ok X Gs (at_ 3 rfl)
  have g_MOST_HILLS : GloI mg (Str.ofString "MOST_HILLS") 10 := ⟨He.int_ok X Gs (at_ 6 rfl)⟩
  have g_MOST_KNOT : GloI mg (Str.ofString "MOST_KNOT") 1000000 := ⟨He.int_ok X Gs (at_ 7 rfl)⟩
  have n_len : mg (Str.ofString "len") = none := He.free_ok X Gs (at_ 9 rfl)
  have n_range : mg (Str.ofString "range") = none := He.free_ok X Gs (at_ 10 rfl)
  have n_tuple : mg (Str.ofString "tuple") = none := He.free_ok X Gs (at_ 11 rfl)
  have g_MOST_DEGREE : GloI mg (Str.ofString "MOST_DEGREE") 4 := ⟨He.int_ok X Gs (at_ 12 rfl)⟩
  have n_enumerate : mg (Str.ofString "enumerate") = none := He.free_ok X Gs (at_ 16 rfl)
  have n_zip : mg (Str.ofString "zip") = none := He.free_ok X Gs (at_ 22 rfl)
  have n_sorted : mg (Str.ofString "sorted") = none := He.free_ok X Gs (at_ 34 rfl)
  have n_abs : mg (Str.ofString "abs") = none := He.free_ok X Gs (at_ 36 rfl)
  have n_list : mg (Str.ofString "list") = none := He.free_ok X Gs (at_ 42 rfl)
  have n_max : mg (Str.ofString "max") = none := He.free_ok X Gs (at_ 43 rfl)
  have n_set : mg (Str.ofString "set") = none := He.free_ok X Gs (at_ 44 rfl)
  have n_repr : mg (Str.ofString "repr") = none := He.free_ok X Gs (at_ 53 rfl)
  have n_all : mg (Str.ofString "all") = none := He.free_ok X Gs (at_ 56 rfl)
  have n_min : mg (Str.ofString "min") = none := He.free_ok X Gs (at_ 57 rfl)
  have f_gcd : mg (Str.ofString "gcd") = some (.builtin "math.gcd") := bfB_ok X Gs (by simp only [Bool.and_eq_true] at mb; exact mb.1.1.1.1.2)
  have g_ZERO : GloT (clOf K xs []) mg (Str.ofString "ZERO") [.int 0, .int 1] := gloT_of X Gs (at_ 23 rfl) (vs := [.int 0, .int 1]) (by simp only [Bool.and_eq_true] at mb; exact mb.1.1.1.2) fun F am => by first | exact RpAll.of_ints [0, 1] | (repeat (first | exact .nil | refine .cons (by constructor) ?_))
  have g_ONE : GloT (clOf K xs []) mg (Str.ofString "ONE") [.int 1, .int 1] := gloT_of X Gs (at_ 25 rfl) (vs := [.int 1, .int 1]) (by simp only [Bool.and_eq_true] at mb; exact mb.1.1.2) fun F am => by first | exact RpAll.of_ints [1, 1] | (repeat (first | exact .nil | refine .cons (by constructor) ?_))
  have q_Frame : eqB K ((clOf K xs []).ca 0) (xs.map (·.1)) = true := by simp only [Bool.and_eq_true] at mb; exact mb.1.2
  have q_Curve : eqB K ((clOf K xs []).ca 1) (xs.map (·.1)) = true := by simp only [Bool.and_eq_true] at mb; exact mb.2
  have k_Frame : mg (Str.ofString "Frame") = some (.ref ((clOf K xs []).ca 0)) := He.glo_ok X Gs (at_ 58 rfl)
  have fn_Frame : (clOf K xs []).fn 0 = [Str.ofString "_degree", Str.ofString "_knots"] := rfl
  have ck_Frame : ClOk (clOf K xs []) 0 := clOk_of (x := Str.ofString "Frame") (fs := [Str.ofString "_degree", Str.ofString "_knots"]) rfl (by decide +kernel) (at_ 59 rfl) (List.all_eq_true.mpr fun f hf => by simp only [List.mem_cons, List.not_mem_nil, or_false] at hf; rcases hf with rfl | rfl <;> first | exact at_ 61 rfl | exact at_ 62 rfl)
  have k_Curve : mg (Str.ofString "Curve") = some (.ref ((clOf K xs []).ca 1)) := He.glo_ok X Gs (at_ 63 rfl)
  have fn_Curve : (clOf K xs []).fn 1 = [Str.ofString "_frame", Str.ofString "_amounts"] := rfl
  have ck_Curve : ClOk (clOf K xs []) 1 := clOk_of (x := Str.ofString "Curve") (fs := [Str.ofString "_frame", Str.ofString "_amounts"]) rfl (by decide +kernel) (at_ 64 rfl) (List.all_eq_true.mpr fun f hf => by simp only [List.mem_cons, List.not_mem_nil, or_false] at hf; rcases hf with rfl | rfl <;> first | exact at_ 66 rfl | exact at_ 67 rfl)
  have D : DefM (clOf K xs []) mg "is_integer" s_is_integer [Str.ofString "value"] := by
    obtain ⟨fd, F⟩ := c.fn 0 (d := ⟨fun K => He.ga K (Str.ofString "is_integer"), "is_integer", "is_integer", s_is_integer⟩) rfl
    exact ⟨_, fd, F, He.glo_ok X Gs (at_ 0 rfl), FunD.bindsN (ps := [Str.ofString "value"]) F fun _ _ _ _ _ _ us hl => match us, hl with | [_], _ => rfl⟩
  have c_is_integer := c_is_integer (P := P) (w := w) (base := base) D n_bool n_int n_isinstance tab
  have D : DefM (clOf K xs []) mg "is_integer_within" s_is_integer_within [Str.ofString "value", Str.ofString "low", Str.ofString "high"] := by
    obtain ⟨fd, F⟩ := c.fn 1 (d := ⟨fun K => He.ga K (Str.ofString "is_integer_within"), "is_integer_within", "is_integer_within", s_is_integer_within⟩) rfl
    exact ⟨_, fd, F, He.glo_ok X Gs (at_ 4 rfl), FunD.bindsN (ps := [Str.ofString "value", Str.ofString "low", Str.ofString "high"]) F fun _ _ _ _ _ _ us hl => match us, hl with | [_, _, _], _ => rfl⟩
  have c_is_integer_within := c_is_integer_within (P := P) (w := w) (base := base) D c_is_integer
  have D : DefM (clOf K xs []) mg "_knot_fits" s__knot_fits [Str.ofString "degree", Str.ofString "knots", Str.ofString "index"] := by
    obtain ⟨fd, F⟩ := c.fn 2 (d := ⟨fun K => He.ga K (Str.ofString "_knot_fits"), "_knot_fits", "_knot_fits", s__knot_fits⟩) rfl
    exact ⟨_, fd, F, He.glo_ok X Gs (at_ 5 rfl), FunD.bindsN (ps := [Str.ofString "degree", Str.ofString "knots", Str.ofString "index"]) F fun _ _ _ _ _ _ us hl => match us, hl with | [_, _, _], _ => rfl⟩
  have c__knot_fits := c__knot_fits (P := P) (w := w) (base := base) D g_MOST_HILLS g_MOST_KNOT c_is_integer_within
  have D : DefM (clOf K xs []) mg "_check_knots" s__check_knots [Str.ofString "degree", Str.ofString "knots"] := by
    obtain ⟨fd, F⟩ := c.fn 3 (d := ⟨fun K => He.ga K (Str.ofString "_check_knots"), "_check_knots", "_check_knots", s__check_knots⟩) rfl
    exact ⟨_, fd, F, He.glo_ok X Gs (at_ 8 rfl), FunD.bindsN (ps := [Str.ofString "degree", Str.ofString "knots"]) F fun _ _ _ _ _ _ us hl => match us, hl with | [_, _], _ => rfl⟩
  have c__check_knots := c__check_knots (P := P) (w := w) (base := base) D n_isinstance n_len n_range n_tuple tab c__knot_fits
  have D : MetM (clOf K xs []) 0 "__init__" "Frame.__init__" s_Frame___init__ (He.ma K (He.ga K (Str.ofString "Frame")) (Str.ofString "__init__")) [Str.ofString "self", Str.ofString "degree", Str.ofString "knots"] := by
    obtain ⟨fd, F⟩ := c.fn 4 (d := ⟨fun K => He.ma K (He.ga K (Str.ofString "Frame")) (Str.ofString "__init__"), "__init__", "Frame.__init__", s_Frame___init__⟩) rfl
    exact ⟨fd, F, FunD.bindsN (ps := [Str.ofString "self", Str.ofString "degree", Str.ofString "knots"]) F fun _ _ _ _ _ _ us hl => match us, hl with | [_, _, _], _ => rfl⟩
  have mkf_Frame := mkf_Frame (P := P) (w := w) (base := base) (He.mkr_ok (at_ 60 rfl)) k_Frame D g_MOST_DEGREE fn_Frame ck_Frame c_is_integer_within c__check_knots
  have mk_Frame := mkf_Frame.toM (n := 2) rfl (fun f fd F => FunD.bindsN (ps := [Str.ofString "self", Str.ofString "degree", Str.ofString "knots"]) F fun _ _ _ _ _ _ us hl => match us, hl with | [_, _, _], _ => rfl)
  have D : DefM (clOf K xs []) mg "check_frame" s_check_frame [Str.ofString "frame"] := by
    obtain ⟨fd, F⟩ := c.fn 5 (d := ⟨fun K => He.ga K (Str.ofString "check_frame"), "check_frame", "check_frame", s_check_frame⟩) rfl
    exact ⟨_, fd, F, He.glo_ok X Gs (at_ 13 rfl), FunD.bindsN (ps := [Str.ofString "frame"]) F fun _ _ _ _ _ _ us hl => match us, hl with | [_], _ => rfl⟩
  have c_check_frame := c_check_frame (P := P) (w := w) (base := base) D n_isinstance k_Frame tab
  have D : MetM (clOf K xs []) 0 "hills" "Frame.hills" s_Frame_hills (gtA K (He.ma K (He.ga K (Str.ofString "Frame")) (Str.ofString "hills"))) [Str.ofString "self"] := by
    obtain ⟨fd, F⟩ := c.fn 6 (d := ⟨fun K => gtA K (He.ma K (He.ga K (Str.ofString "Frame")) (Str.ofString "hills")), "hills", "Frame.hills", s_Frame_hills⟩) rfl
    exact ⟨fd, F, FunD.bindsN (ps := [Str.ofString "self"]) F fun _ _ _ _ _ _ us hl => match us, hl with | [_], _ => rfl⟩
  have p_Frame_hills := p_Frame_hills (P := P) (w := w) (mg := mg) (base := base) ck_Frame.cl (propB_ok (by simp only [Bool.and_eq_true] at pb; exact pb.1.1.1.1.2)) D n_len fn_Frame ck_Frame
  have D : DefM (clOf K xs []) mg "is_fraction" s_is_fraction [Str.ofString "value"] := by
    obtain ⟨fd, F⟩ := c.fn 7 (d := ⟨fun K => He.ga K (Str.ofString "is_fraction"), "is_fraction", "is_fraction", s_is_fraction⟩) rfl
    exact ⟨_, fd, F, He.glo_ok X Gs (at_ 14 rfl), FunD.bindsN (ps := [Str.ofString "value"]) F fun _ _ _ _ _ _ us hl => match us, hl with | [_], _ => rfl⟩
  have c_is_fraction := c_is_fraction (P := P) (w := w) (base := base) D n_isinstance n_len n_tuple f_gcd tab c_is_integer
  have D : DefM (clOf K xs []) mg "check_amounts" s_check_amounts [Str.ofString "frame", Str.ofString "amounts"] := by
    obtain ⟨fd, F⟩ := c.fn 8 (d := ⟨fun K => He.ga K (Str.ofString "check_amounts"), "check_amounts", "check_amounts", s_check_amounts⟩) rfl
    exact ⟨_, fd, F, He.glo_ok X Gs (at_ 15 rfl), FunD.bindsN (ps := [Str.ofString "frame", Str.ofString "amounts"]) F fun _ _ _ _ _ _ us hl => match us, hl with | [_, _], _ => rfl⟩
  have c_check_amounts := c_check_amounts (P := P) (w := w) (base := base) D n_enumerate n_isinstance n_len n_tuple tab p_Frame_hills c_is_fraction
  have D : MetM (clOf K xs []) 1 "__init__" "Curve.__init__" s_Curve___init__ (He.ma K (He.ga K (Str.ofString "Curve")) (Str.ofString "__init__")) [Str.ofString "self", Str.ofString "frame", Str.ofString "amounts"] := by
    obtain ⟨fd, F⟩ := c.fn 9 (d := ⟨fun K => He.ma K (He.ga K (Str.ofString "Curve")) (Str.ofString "__init__"), "__init__", "Curve.__init__", s_Curve___init__⟩) rfl
    exact ⟨fd, F, FunD.bindsN (ps := [Str.ofString "self", Str.ofString "frame", Str.ofString "amounts"]) F fun _ _ _ _ _ _ us hl => match us, hl with | [_, _, _], _ => rfl⟩
  have mkf_Curve := mkf_Curve (P := P) (w := w) (base := base) (He.mkr_ok (at_ 65 rfl)) k_Curve D fn_Curve ck_Curve c_check_frame c_check_amounts
  have mk_Curve := mkf_Curve.toM (n := 2) rfl (fun f fd F => FunD.bindsN (ps := [Str.ofString "self", Str.ofString "frame", Str.ofString "amounts"]) F fun _ _ _ _ _ _ us hl => match us, hl with | [_, _, _], _ => rfl)
  have D : DefM (clOf K xs []) mg "check_place" s_check_place [Str.ofString "place"] := by
    obtain ⟨fd, F⟩ := c.fn 10 (d := ⟨fun K => He.ga K (Str.ofString "check_place"), "check_place", "check_place", s_check_place⟩) rfl
    exact ⟨_, fd, F, He.glo_ok X Gs (at_ 17 rfl), FunD.bindsN (ps := [Str.ofString "place"]) F fun _ _ _ _ _ _ us hl => match us, hl with | [_], _ => rfl⟩
  have c_check_place := c_check_place (P := P) (w := w) (base := base) D g_MOST_KNOT c_is_integer_within
  have D : DefM (clOf K xs []) mg "reduced" s_reduced [Str.ofString "top", Str.ofString "bottom"] := by
    obtain ⟨fd, F⟩ := c.fn 11 (d := ⟨fun K => He.ga K (Str.ofString "reduced"), "reduced", "reduced", s_reduced⟩) rfl
    exact ⟨_, fd, F, He.glo_ok X Gs (at_ 18 rfl), FunD.bindsN (ps := [Str.ofString "top", Str.ofString "bottom"]) F fun _ _ _ _ _ _ us hl => match us, hl with | [_, _], _ => rfl⟩
  have c_reduced := c_reduced (P := P) (w := w) (base := base) D f_gcd
  have D : DefM (clOf K xs []) mg "plus" s_plus [Str.ofString "one", Str.ofString "other"] := by
    obtain ⟨fd, F⟩ := c.fn 12 (d := ⟨fun K => He.ga K (Str.ofString "plus"), "plus", "plus", s_plus⟩) rfl
    exact ⟨_, fd, F, He.glo_ok X Gs (at_ 19 rfl), FunD.bindsN (ps := [Str.ofString "one", Str.ofString "other"]) F fun _ _ _ _ _ _ us hl => match us, hl with | [_, _], _ => rfl⟩
  have c_plus := c_plus (P := P) (w := w) (base := base) D c_reduced
  have D : DefM (clOf K xs []) mg "times" s_times [Str.ofString "one", Str.ofString "other"] := by
    obtain ⟨fd, F⟩ := c.fn 13 (d := ⟨fun K => He.ga K (Str.ofString "times"), "times", "times", s_times⟩) rfl
    exact ⟨_, fd, F, He.glo_ok X Gs (at_ 20 rfl), FunD.bindsN (ps := [Str.ofString "one", Str.ofString "other"]) F fun _ _ _ _ _ _ us hl => match us, hl with | [_, _], _ => rfl⟩
  have c_times := c_times (P := P) (w := w) (base := base) D c_reduced
  have D : DefM (clOf K xs []) mg "sum_of_products" s_sum_of_products [Str.ofString "ones", Str.ofString "others"] := by
    obtain ⟨fd, F⟩ := c.fn 14 (d := ⟨fun K => He.ga K (Str.ofString "sum_of_products"), "sum_of_products", "sum_of_products", s_sum_of_products⟩) rfl
    exact ⟨_, fd, F, He.glo_ok X Gs (at_ 21 rfl), FunD.bindsN (ps := [Str.ofString "ones", Str.ofString "others"]) F fun _ _ _ _ _ _ us hl => match us, hl with | [_, _], _ => rfl⟩
  have c_sum_of_products := c_sum_of_products (P := P) (w := w) (base := base) D n_zip g_ZERO c_times c_plus
  have D : DefM (clOf K xs []) mg "_flat_value" s__flat_value [Str.ofString "knots", Str.ofString "index", Str.ofString "place"] := by
    obtain ⟨fd, F⟩ := c.fn 15 (d := ⟨fun K => He.ga K (Str.ofString "_flat_value"), "_flat_value", "_flat_value", s__flat_value⟩) rfl
    exact ⟨_, fd, F, He.glo_ok X Gs (at_ 24 rfl), FunD.bindsN (ps := [Str.ofString "knots", Str.ofString "index", Str.ofString "place"]) F fun _ _ _ _ _ _ us hl => match us, hl with | [_, _, _], _ => rfl⟩
  have c__flat_value := c__flat_value (P := P) (w := w) (base := base) D g_ONE g_ZERO
  have D : DefM (clOf K xs []) mg "_part" s__part [Str.ofString "top", Str.ofString "bottom", Str.ofString "worth"] := by
    obtain ⟨fd, F⟩ := c.fn 16 (d := ⟨fun K => He.ga K (Str.ofString "_part"), "_part", "_part", s__part⟩) rfl
    exact ⟨_, fd, F, He.glo_ok X Gs (at_ 26 rfl), FunD.bindsN (ps := [Str.ofString "top", Str.ofString "bottom", Str.ofString "worth"]) F fun _ _ _ _ _ _ us hl => match us, hl with | [_, _, _], _ => rfl⟩
  have c__part := c__part (P := P) (w := w) (base := base) D g_ZERO c_reduced c_times
  have D : DefM (clOf K xs []) mg "_bent_value" s__bent_value [Str.ofString "knots", Str.ofString "lower", Str.ofString "place"] := by
    obtain ⟨fd, F⟩ := c.fn 17 (d := ⟨fun K => He.ga K (Str.ofString "_bent_value"), "_bent_value", "_bent_value", s__bent_value⟩) rfl
    exact ⟨_, fd, F, He.glo_ok X Gs (at_ 27 rfl), FunD.bindsN (ps := [Str.ofString "knots", Str.ofString "lower", Str.ofString "place"]) F fun _ _ _ _ _ _ us hl => match us, hl with | [_, _, _], _ => rfl⟩
  have c__bent_value := c__bent_value (P := P) (w := w) (base := base) D c__part c_plus
  have D : DefM (clOf K xs []) mg "_values_over" s__values_over [Str.ofString "degree", Str.ofString "knots", Str.ofString "place"] := by
    obtain ⟨fd, F⟩ := c.fn 18 (d := ⟨fun K => He.ga K (Str.ofString "_values_over"), "_values_over", "_values_over", s__values_over⟩) rfl
    exact ⟨_, fd, F, He.glo_ok X Gs (at_ 28 rfl), FunD.bindsN (ps := [Str.ofString "degree", Str.ofString "knots", Str.ofString "place"]) F fun _ _ _ _ _ _ us hl => match us, hl with | [_, _, _], _ => rfl⟩
  have c__values_over := c__values_over (P := P) (w := w) (base := base) D n_len n_range c__flat_value c__bent_value
  have D : MetM (clOf K xs []) 0 "degree" "Frame.degree" s_Frame_degree (gtA K (He.ma K (He.ga K (Str.ofString "Frame")) (Str.ofString "degree"))) [Str.ofString "self"] := by
    obtain ⟨fd, F⟩ := c.fn 19 (d := ⟨fun K => gtA K (He.ma K (He.ga K (Str.ofString "Frame")) (Str.ofString "degree")), "degree", "Frame.degree", s_Frame_degree⟩) rfl
    exact ⟨fd, F, FunD.bindsN (ps := [Str.ofString "self"]) F fun _ _ _ _ _ _ us hl => match us, hl with | [_], _ => rfl⟩
  have p_Frame_degree := p_Frame_degree (P := P) (w := w) (mg := mg) (base := base) ck_Frame.cl (propB_ok (by simp only [Bool.and_eq_true] at pb; exact pb.1.1.1.2)) D fn_Frame ck_Frame
  have D : MetM (clOf K xs []) 0 "knots" "Frame.knots" s_Frame_knots (gtA K (He.ma K (He.ga K (Str.ofString "Frame")) (Str.ofString "knots"))) [Str.ofString "self"] := by
    obtain ⟨fd, F⟩ := c.fn 20 (d := ⟨fun K => gtA K (He.ma K (He.ga K (Str.ofString "Frame")) (Str.ofString "knots")), "knots", "Frame.knots", s_Frame_knots⟩) rfl
    exact ⟨fd, F, FunD.bindsN (ps := [Str.ofString "self"]) F fun _ _ _ _ _ _ us hl => match us, hl with | [_], _ => rfl⟩
  have p_Frame_knots := p_Frame_knots (P := P) (w := w) (mg := mg) (base := base) ck_Frame.cl (propB_ok (by simp only [Bool.and_eq_true] at pb; exact pb.1.1.2)) D fn_Frame ck_Frame
  have D : DefM (clOf K xs []) mg "values_at" s_values_at [Str.ofString "frame", Str.ofString "place"] := by
    obtain ⟨fd, F⟩ := c.fn 21 (d := ⟨fun K => He.ga K (Str.ofString "values_at"), "values_at", "values_at", s_values_at⟩) rfl
    exact ⟨_, fd, F, He.glo_ok X Gs (at_ 29 rfl), FunD.bindsN (ps := [Str.ofString "frame", Str.ofString "place"]) F fun _ _ _ _ _ _ us hl => match us, hl with | [_, _], _ => rfl⟩
  have c_values_at := c_values_at (P := P) (w := w) (base := base) D p_Frame_degree p_Frame_knots c__values_over
  have D : MetM (clOf K xs []) 1 "value" "Curve.value" s_Curve_value (He.ma K (He.ga K (Str.ofString "Curve")) (Str.ofString "value")) [Str.ofString "self", Str.ofString "place"] := by
    obtain ⟨fd, F⟩ := c.fn 22 (d := ⟨fun K => He.ma K (He.ga K (Str.ofString "Curve")) (Str.ofString "value"), "value", "Curve.value", s_Curve_value⟩) rfl
    exact ⟨fd, F, FunD.bindsN (ps := [Str.ofString "self", Str.ofString "place"]) F fun _ _ _ _ _ _ us hl => match us, hl with | [_, _], _ => rfl⟩
  have t_Curve_value := t_Curve_value (P := P) (w := w) (mg := mg) (base := base) ck_Curve.cl (He.meth_ok (at_ 30 rfl)) D fn_Curve ck_Curve c_check_place c_values_at c_sum_of_products
  have tm_Curve_value := t_Curve_value.toM (n := 1) rfl (fun f fd F => FunD.bindsN (ps := [Str.ofString "self", Str.ofString "place"]) F fun _ _ _ _ _ _ us hl => match us, hl with | [_, _], _ => rfl)
  have D : DefM (clOf K xs []) mg "_law_sip" s__law_sip [Str.ofString "_law_mug_here", Str.ofString "_law_top"] := by
    obtain ⟨fd, F⟩ := c.fn 23 (d := ⟨fun K => He.ga K (Str.ofString "_law_sip"), "_law_sip", "_law_sip", s__law_sip⟩) rfl
    exact ⟨_, fd, F, He.glo_ok X Gs (at_ 31 rfl), FunD.bindsN (ps := [Str.ofString "_law_mug_here", Str.ofString "_law_top"]) F fun _ _ _ _ _ _ us hl => match us, hl with | [_, _], _ => rfl⟩
  have c__law_sip := c__law_sip (P := P) (w := w) (base := base) D n_int
  have D : DefM (clOf K xs []) mg "_law_pick" s__law_pick [Str.ofString "_law_mug_here", Str.ofString "_law_menu"] := by
    obtain ⟨fd, F⟩ := c.fn 24 (d := ⟨fun K => He.ga K (Str.ofString "_law_pick"), "_law_pick", "_law_pick", s__law_pick⟩) rfl
    exact ⟨_, fd, F, He.glo_ok X Gs (at_ 32 rfl), FunD.bindsN (ps := [Str.ofString "_law_mug_here", Str.ofString "_law_menu"]) F fun _ _ _ _ _ _ us hl => match us, hl with | [_, _], _ => rfl⟩
  have c__law_pick := c__law_pick (P := P) (w := w) (base := base) D n_len c__law_sip
  have D : DefM (clOf K xs []) mg "_law_draft" s__law_draft [Str.ofString "_law_mug_here", Str.ofString "_law_most_hills", Str.ofString "_law_most"] := by
    obtain ⟨fd, F⟩ := c.fn 25 (d := ⟨fun K => He.ga K (Str.ofString "_law_draft"), "_law_draft", "_law_draft", s__law_draft⟩) rfl
    exact ⟨_, fd, F, He.glo_ok X Gs (at_ 33 rfl), FunD.bindsN (ps := [Str.ofString "_law_mug_here", Str.ofString "_law_most_hills", Str.ofString "_law_most"]) F fun _ _ _ _ _ _ us hl => match us, hl with | [_, _, _], _ => rfl⟩
  have c__law_draft := c__law_draft (P := P) (w := w) (base := base) (2 ^ 8000) D n_len n_range n_sorted n_tuple c__law_pick c__law_sip
  have D : DefM (clOf K xs []) mg "_law_gcd" s__law_gcd [Str.ofString "_law_one", Str.ofString "_law_two"] := by
    obtain ⟨fd, F⟩ := c.fn 26 (d := ⟨fun K => He.ga K (Str.ofString "_law_gcd"), "_law_gcd", "_law_gcd", s__law_gcd⟩) rfl
    exact ⟨_, fd, F, He.glo_ok X Gs (at_ 35 rfl), FunD.bindsN (ps := [Str.ofString "_law_one", Str.ofString "_law_two"]) F fun _ _ _ _ _ _ us hl => match us, hl with | [_, _], _ => rfl⟩
  have c__law_gcd := c__law_gcd (P := P) (w := w) (base := base) (2 ^ 8000) D n_abs n_int
  have D : DefM (clOf K xs []) mg "_law_low" s__law_low [Str.ofString "_law_top", Str.ofString "_law_bottom"] := by
    obtain ⟨fd, F⟩ := c.fn 27 (d := ⟨fun K => He.ga K (Str.ofString "_law_low"), "_law_low", "_law_low", s__law_low⟩) rfl
    exact ⟨_, fd, F, He.glo_ok X Gs (at_ 37 rfl), FunD.bindsN (ps := [Str.ofString "_law_top", Str.ofString "_law_bottom"]) F fun _ _ _ _ _ _ us hl => match us, hl with | [_, _], _ => rfl⟩
  have c__law_low := c__law_low (P := P) (w := w) (base := base) (2 ^ 8000) D c__law_gcd
  have D : DefM (clOf K xs []) mg "_law_amounts" s__law_amounts [Str.ofString "_law_mug_here", Str.ofString "_law_many"] := by
    obtain ⟨fd, F⟩ := c.fn 28 (d := ⟨fun K => He.ga K (Str.ofString "_law_amounts"), "_law_amounts", "_law_amounts", s__law_amounts⟩) rfl
    exact ⟨_, fd, F, He.glo_ok X Gs (at_ 38 rfl), FunD.bindsN (ps := [Str.ofString "_law_mug_here", Str.ofString "_law_many"]) F fun _ _ _ _ _ _ us hl => match us, hl with | [_, _], _ => rfl⟩
  have c__law_amounts := c__law_amounts (P := P) (w := w) (base := base) (2 ^ 8000) D n_range n_tuple c__law_sip c__law_pick c__law_low
  have D : MetM (clOf K xs []) 0 "__eq__" "Frame.__eq__" s_Frame___eq__ (He.ma K (He.ga K (Str.ofString "Frame")) (Str.ofString "__eq__")) [Str.ofString "self", Str.ofString "other"] := by
    obtain ⟨fd, F⟩ := c.fn 29 (d := ⟨fun K => He.ma K (He.ga K (Str.ofString "Frame")) (Str.ofString "__eq__"), "__eq__", "Frame.__eq__", s_Frame___eq__⟩) rfl
    exact ⟨fd, F, FunD.bindsN (ps := [Str.ofString "self", Str.ofString "other"]) F fun _ _ _ _ _ _ us hl => match us, hl with | [_, _], _ => rfl⟩
  have t_Frame___eq__ := t_Frame___eq__ (P := P) (w := w) (mg := mg) (base := base) ck_Frame.cl (He.meth_ok (at_ 39 rfl)) D n_isinstance k_Frame tab fn_Frame ck_Frame
  have tm_Frame___eq__ := t_Frame___eq__.toM (n := 1) rfl (fun f fd F => FunD.bindsN (ps := [Str.ofString "self", Str.ofString "other"]) F fun _ _ _ _ _ _ us hl => match us, hl with | [_, _], _ => rfl)
  have E_Frame := eqM_of (n := 2) tm_Frame___eq__ (fun t e => eqB_first q_Frame t (nfC_up (by decide) t e))
  have nE_Frame := eqB_ne q_Frame
  have tr_Frame := eqB_tr q_Frame
  have D : MetM (clOf K xs []) 1 "__eq__" "Curve.__eq__" s_Curve___eq__ (He.ma K (He.ga K (Str.ofString "Curve")) (Str.ofString "__eq__")) [Str.ofString "self", Str.ofString "other"] := by
    obtain ⟨fd, F⟩ := c.fn 30 (d := ⟨fun K => He.ma K (He.ga K (Str.ofString "Curve")) (Str.ofString "__eq__"), "__eq__", "Curve.__eq__", s_Curve___eq__⟩) rfl
    exact ⟨fd, F, FunD.bindsN (ps := [Str.ofString "self", Str.ofString "other"]) F fun _ _ _ _ _ _ us hl => match us, hl with | [_, _], _ => rfl⟩
  have t_Curve___eq__ := t_Curve___eq__ (P := P) (w := w) (mg := mg) (base := base) ck_Curve.cl (He.meth_ok (at_ 40 rfl)) D n_isinstance k_Curve tab fn_Curve ck_Curve E_Frame
  have tm_Curve___eq__ := t_Curve___eq__.toM (n := 1) rfl (fun f fd F => FunD.bindsN (ps := [Str.ofString "self", Str.ofString "other"]) F fun _ _ _ _ _ _ us hl => match us, hl with | [_, _], _ => rfl)
  have E_Curve := eqM_of (n := 2) tm_Curve___eq__ (fun t e => eqB_first q_Curve t (nfC_up (by decide) t e))
  have nE_Curve := eqB_ne q_Curve
  have tr_Curve := eqB_tr q_Curve
  have D : DefM (clOf K xs []) mg "_law_sites" s__law_sites [Str.ofString "_law_mug_here", Str.ofString "_law_draft_here", Str.ofString "_law_many"] := by
    obtain ⟨fd, F⟩ := c.fn 31 (d := ⟨fun K => He.ga K (Str.ofString "_law_sites"), "_law_sites", "_law_sites", s__law_sites⟩) rfl
    exact ⟨_, fd, F, He.glo_ok X Gs (at_ 41 rfl), FunD.bindsN (ps := [Str.ofString "_law_mug_here", Str.ofString "_law_draft_here", Str.ofString "_law_many"]) F fun _ _ _ _ _ _ us hl => match us, hl with | [_, _, _], _ => rfl⟩
  have c__law_sites := c__law_sites (P := P) (w := w) (base := base) D n_list n_max n_range n_set n_sorted n_tuple c__law_sip c__law_pick
  have D : DefM (clOf K xs []) mg "_law_made" s__law_made [Str.ofString "_law_draft_here"] := by
    obtain ⟨fd, F⟩ := c.fn 32 (d := ⟨fun K => He.ga K (Str.ofString "_law_made"), "_law_made", "_law_made", s__law_made⟩) rfl
    exact ⟨_, fd, F, He.glo_ok X Gs (at_ 45 rfl), FunD.bindsN (ps := [Str.ofString "_law_draft_here"]) F fun _ _ _ _ _ _ us hl => match us, hl with | [_], _ => rfl⟩
  have c__law_made := c__law_made (P := P) (w := w) (base := base) D fn_Frame ck_Frame mk_Frame
  have D : DefM (clOf K xs []) mg "_law_hills" s__law_hills [Str.ofString "_law_draft_here"] := by
    obtain ⟨fd, F⟩ := c.fn 33 (d := ⟨fun K => He.ga K (Str.ofString "_law_hills"), "_law_hills", "_law_hills", s__law_hills⟩) rfl
    exact ⟨_, fd, F, He.glo_ok X Gs (at_ 46 rfl), FunD.bindsN (ps := [Str.ofString "_law_draft_here"]) F fun _ _ _ _ _ _ us hl => match us, hl with | [_], _ => rfl⟩
  have c__law_hills := c__law_hills (P := P) (w := w) (base := base) D n_len
  have D : MetM (clOf K xs []) 1 "frame" "Curve.frame" s_Curve_frame (gtA K (He.ma K (He.ga K (Str.ofString "Curve")) (Str.ofString "frame"))) [Str.ofString "self"] := by
    obtain ⟨fd, F⟩ := c.fn 34 (d := ⟨fun K => gtA K (He.ma K (He.ga K (Str.ofString "Curve")) (Str.ofString "frame")), "frame", "Curve.frame", s_Curve_frame⟩) rfl
    exact ⟨fd, F, FunD.bindsN (ps := [Str.ofString "self"]) F fun _ _ _ _ _ _ us hl => match us, hl with | [_], _ => rfl⟩
  have p_Curve_frame := p_Curve_frame (P := P) (w := w) (mg := mg) (base := base) ck_Curve.cl (propB_ok (by simp only [Bool.and_eq_true] at pb; exact pb.1.2)) D fn_Curve ck_Curve
  have D : MetM (clOf K xs []) 1 "amounts" "Curve.amounts" s_Curve_amounts (gtA K (He.ma K (He.ga K (Str.ofString "Curve")) (Str.ofString "amounts"))) [Str.ofString "self"] := by
    obtain ⟨fd, F⟩ := c.fn 35 (d := ⟨fun K => gtA K (He.ma K (He.ga K (Str.ofString "Curve")) (Str.ofString "amounts")), "amounts", "Curve.amounts", s_Curve_amounts⟩) rfl
    exact ⟨fd, F, FunD.bindsN (ps := [Str.ofString "self"]) F fun _ _ _ _ _ _ us hl => match us, hl with | [_], _ => rfl⟩
  have p_Curve_amounts := p_Curve_amounts (P := P) (w := w) (mg := mg) (base := base) ck_Curve.cl (propB_ok (by simp only [Bool.and_eq_true] at pb; exact pb.2)) D fn_Curve ck_Curve
  have D : DefM (clOf K xs []) mg "_law_mult" s__law_mult [Str.ofString "_law_one", Str.ofString "_law_two"] := by
    obtain ⟨fd, F⟩ := c.fn 36 (d := ⟨fun K => He.ga K (Str.ofString "_law_mult"), "_law_mult", "_law_mult", s__law_mult⟩) rfl
    exact ⟨_, fd, F, He.glo_ok X Gs (at_ 47 rfl), FunD.bindsN (ps := [Str.ofString "_law_one", Str.ofString "_law_two"]) F fun _ _ _ _ _ _ us hl => match us, hl with | [_, _], _ => rfl⟩
  have c__law_mult := c__law_mult (P := P) (w := w) (base := base) (2 ^ 8000) D c__law_low
  have D : DefM (clOf K xs []) mg "_law_plus" s__law_plus [Str.ofString "_law_one", Str.ofString "_law_two"] := by
    obtain ⟨fd, F⟩ := c.fn 37 (d := ⟨fun K => He.ga K (Str.ofString "_law_plus"), "_law_plus", "_law_plus", s__law_plus⟩) rfl
    exact ⟨_, fd, F, He.glo_ok X Gs (at_ 48 rfl), FunD.bindsN (ps := [Str.ofString "_law_one", Str.ofString "_law_two"]) F fun _ _ _ _ _ _ us hl => match us, hl with | [_, _], _ => rfl⟩
  have c__law_plus := c__law_plus (P := P) (w := w) (base := base) (2 ^ 8000) D c__law_low
  have D : DefM (clOf K xs []) mg "_law_bump" s__law_bump [Str.ofString "_law_bolts", Str.ofString "_law_k", Str.ofString "_law_grade", Str.ofString "_law_x"] := by
    obtain ⟨fd, F⟩ := c.fn 38 (d := ⟨fun K => He.ga K (Str.ofString "_law_bump"), "_law_bump", "_law_bump", s__law_bump⟩) rfl
    exact ⟨_, fd, F, He.glo_ok X Gs (at_ 49 rfl), FunD.bindsN (ps := [Str.ofString "_law_bolts", Str.ofString "_law_k", Str.ofString "_law_grade", Str.ofString "_law_x"]) F fun _ _ _ _ _ _ us hl => match us, hl with | [_, _, _, _], _ => rfl⟩
  have c__law_bump := c__law_bump (P := P) (w := w) (base := base) (2 ^ 8000) D c__law_low c__law_mult c__law_plus
  have D : DefM (clOf K xs []) mg "_law_row" s__law_row [Str.ofString "_law_grade", Str.ofString "_law_bolts", Str.ofString "_law_x"] := by
    obtain ⟨fd, F⟩ := c.fn 39 (d := ⟨fun K => He.ga K (Str.ofString "_law_row"), "_law_row", "_law_row", s__law_row⟩) rfl
    exact ⟨_, fd, F, He.glo_ok X Gs (at_ 50 rfl), FunD.bindsN (ps := [Str.ofString "_law_grade", Str.ofString "_law_bolts", Str.ofString "_law_x"]) F fun _ _ _ _ _ _ us hl => match us, hl with | [_, _, _], _ => rfl⟩
  have c__law_row := c__law_row (P := P) (w := w) (base := base) (2 ^ 8000) D n_len n_range c__law_bump
  have D : DefM (clOf K xs []) mg "_law_dot" s__law_dot [Str.ofString "_law_some", Str.ofString "_law_others"] := by
    obtain ⟨fd, F⟩ := c.fn 40 (d := ⟨fun K => He.ga K (Str.ofString "_law_dot"), "_law_dot", "_law_dot", s__law_dot⟩) rfl
    exact ⟨_, fd, F, He.glo_ok X Gs (at_ 51 rfl), FunD.bindsN (ps := [Str.ofString "_law_some", Str.ofString "_law_others"]) F fun _ _ _ _ _ _ us hl => match us, hl with | [_, _], _ => rfl⟩
  have c__law_dot := c__law_dot (P := P) (w := w) (base := base) (2 ^ 8000) D n_zip c__law_mult c__law_plus
  have D : DefM (clOf K xs []) mg "_law_right" s__law_right [Str.ofString "_law_mug_here"] := by
    obtain ⟨fd, F⟩ := c.fn 41 (d := ⟨fun K => He.ga K (Str.ofString "_law_right"), "_law_right", "_law_right", s__law_right⟩) rfl
    exact ⟨_, fd, F, He.glo_ok X Gs (at_ 52 rfl), FunD.bindsN (ps := [Str.ofString "_law_mug_here"]) F fun _ _ _ _ _ _ us hl => match us, hl with | [_], _ => rfl⟩
  have c__law_right := c__law_right (P := P) (w := w) (base := base) (2 ^ 8000) D n_bool n_range n_repr tab fn_Curve ck_Curve p_Curve_amounts p_Curve_frame mk_Curve mkf_Curve tm_Curve_value t_Curve_value E_Curve E_Frame nE_Curve nE_Frame tr_Curve c__law_pick c__law_draft c__law_made c__law_hills c__law_amounts c__law_sip c__law_plus c__law_sites c__law_row c__law_dot c__law_mult
  have D : DefM (clOf K xs []) mg "_law_mug" s__law_mug [Str.ofString "_law_script", Str.ofString "_law_turn"] := by
    obtain ⟨fd, F⟩ := c.fn 42 (d := ⟨fun K => He.ga K (Str.ofString "_law_mug"), "_law_mug", "_law_mug", s__law_mug⟩) rfl
    exact ⟨_, fd, F, He.glo_ok X Gs (at_ 54 rfl), FunD.bindsN (ps := [Str.ofString "_law_script", Str.ofString "_law_turn"]) F fun _ _ _ _ _ _ us hl => match us, hl with | [_, _], _ => rfl⟩
  have c__law_mug := c__law_mug (P := P) (w := w) (base := base) D n_abs n_int n_len
  have D : DefM (clOf K xs []) mg "law" s_law [Str.ofString "_law_script"] := by
    obtain ⟨fd, F⟩ := c.fn 43 (d := ⟨fun K => He.ga K (Str.ofString "law"), "law", "law", s_law⟩) rfl
    exact ⟨_, fd, F, He.glo_ok X Gs (at_ 55 rfl), FunD.bindsN (ps := [Str.ofString "_law_script"]) F fun _ _ _ _ _ _ us hl => match us, hl with | [_], _ => rfl⟩
  have c_law := c_law (P := P) (w := w) (base := base) (2 ^ 8000) D n_all n_len n_max n_min n_range fn_Curve ck_Curve fn_Frame ck_Frame mk_Curve mk_Frame tm_Curve_value c__law_mug c__law_right
  exact c_law
end Go
open PySem PySem.W PySem.Calls PyProof.Rows
theorem Go.holds (hl : ∀ ns : List Int, ns.length ≤ 63 → (Go.m_law (2 ^ 8000)) [.scr ns] none = some (.ok (.fz (.bl true)), none)) : PySem.Challenge.rw_bentthrough_k08_whole_values_of_curves.Holds := by
  w_on; o_law
  refine HandSHeadRun.head_imp (r := OpenLaw.row PySem.Challenge.rw_bentthrough_k08_whole_values_of_curves) (q := view (PySem.W.OpenLaw.row PySem.Challenge.rw_bentthrough_k08_whole_values_of_curves).prog [0, 56]) (H := Go.hk) (ob := Go.ob) (M := 6000) (loose := Go.loose0 ++ Go.loose1 ++ Go.loose2) (d := HandSHeadRun.topDef (PySem.W.OpenLaw.row PySem.Challenge.rw_bentthrough_k08_whole_values_of_curves).prog 56) (kwd := []) Go.ob_eq
     Go.run (by kernel_rfl) (by kernel_rfl) (by kernel_rfl) (by rfl) (by first | assumption | decide +kernel) (by decide +kernel) ⟨rfl, rfl, rfl, rfl, rfl, by decide +kernel⟩ ?hw ?hc
  case hw => w_witness2
  case hc =>
    refine Mi.walkM (l := PySem.Challenge.rw_bentthrough_k08_whole_values_of_curves) (n := 63) (k := 14) (x := Str.ofString "_law_script") (x0 := "law") (st := Go.s_law) rfl (by decide) (by kernel_rfl) ⟨rfl, by decide, by decide⟩ (by kernel_rfl) (fun _ _ _ _ _ _ us hl => match us, hl with | [_], _ => rfl) (fun w mg h Y Gs => ?_) hl
    obtain ⟨K, KX, c⟩ := Y
    exact ⟨Mi.clOf K Go.xs [], ⟨rfl, rfl⟩, KX, fun base => Go.facts KX Gs c base⟩
namespace Go
end Go
end
section
set_option Elab.async false
set_option linter.all false
set_option maxRecDepth 100000
open PySem PySem.Spec PyProof.Rows L2 Mi Go
namespace Ev
theorem atI0 {α : Type} (a b c : α) : atI [a, b, c] 0 = some a := rfl
theorem atI1 {α : Type} (a b c : α) : atI [a, b, c] 1 = some b := rfl
theorem atI2 {α : Type} (a b c : α) : atI [a, b, c] 2 = some c := rfl
/-- three whole numbers -/
def MugL (ds : List D) : Prop := ∃ a b c : Int, ds = [.int a, .int b, .int c]
theorem sip_ok {ds : List D} {top : Int} (hm : MugL ds) (ht : 0 < top) (hs : top < 18446744073709551616) : ∃ r ds', m__law_sip [.mug, .int top] (some ds) = some (.ok (.fz (.int r)), some ds') ∧ MugL ds' ∧ 0 ≤ r ∧ r < top := by
  obtain ⟨a, b, c, rfl⟩ := hm
  by_cases h : 0 < a
  · refine ⟨a % top, [.int (a / top), .int b, .int (c + 1)], ?_, ⟨_, _, _, rfl⟩, Int.emod_nonneg _ (by omega), Int.emod_lt_of_pos _ ht⟩
    simp [fnM, sSeq, sNil, sMug, sWith, eBin, eIx, eVar, eC, Mi.M.bind, Mi.M.pure, Mi.M.of, Mi.M.no, slotD, ixD, atI0, atI1, atI2, Vl.d, addA, Mi.orM, addI, subI, mulA, mulS, muSet, ixN, sIf, bOf, gtM, ltM, geM, leM, cmpI, blD, sSet, modA, modI, eCall, aCons, aNil, m1, intM, divA, divS, divI, sRet, aLen, eOwn, lenD, m__law_sip, b__law_sip, h, ht, hs]
  · refine ⟨((b * 39373 + 2003 * (c + 1) + 31) % 2147483563 / 128) % top, [.int a, .int ((b * 39373 + 2003 * (c + 1) + 31) % 2147483563), .int (c + 1)], ?_, ⟨_, _, _, rfl⟩, Int.emod_nonneg _ (by omega), Int.emod_lt_of_pos _ ht⟩
    simp [fnM, sSeq, sNil, sMug, sWith, eBin, eIx, eVar, eC, Mi.M.bind, Mi.M.pure, Mi.M.of, Mi.M.no, slotD, ixD, atI0, atI1, atI2, Vl.d, addA, Mi.orM, addI, subI, mulA, mulS, muSet, ixN, sIf, bOf, gtM, ltM, geM, leM, cmpI, blD, sSet, modA, modI, eCall, aCons, aNil, m1, intM, divA, divS, divI, sRet, aLen, eOwn, lenD, m__law_sip, b__law_sip, h, ht, hs]
theorem pick_ok {ds xs : List D} (hm : MugL ds) (h1 : xs ≠ []) (h2 : xs.length < 100000) : ∃ d ds', m__law_pick [.mug, .lst xs] (some ds) = some (.ok (.fz d), some ds') ∧ MugL ds' ∧ d ∈ xs := by
  have h3 : 0 < xs.length := List.length_pos_iff.mpr h1
  obtain ⟨r, ds', e, hm', r1, r2⟩ := sip_ok (top := xs.length) hm (by omega) (by omega)
  obtain ⟨j, rfl⟩ := Int.eq_ofNat_of_zero_le r1
  have hj : j < xs.length := by omega
  refine ⟨xs[j], ds', ?_, hm', List.getElem_mem hj⟩
  have ha : atI xs (j : Int) = some xs[j] := by
    unfold atI ixN
    rw [if_pos (by omega), if_pos (by omega)]
    simp [hj]
  simp [fnM, sSeq, sNil, sMug, sWith, eBin, eIx, eVar, eC, Mi.M.bind, Mi.M.pure, Mi.M.of, Mi.M.no, slotD, ixD, atI0, atI1, atI2, Vl.d, addA, Mi.orM, addI, subI, mulA, mulS, muSet, ixN, sIf, bOf, gtM, ltM, geM, leM, cmpI, blD, sSet, modA, modI, eCall, aCons, aNil, m1, intM, divA, divS, divI, sRet, aLen, eOwn, lenD, m__law_pick, b__law_pick, e, ha]
/-- a loop whose turns all go on -/
theorem forL_inv {body : D → SM} {I : List Slot → Mu → Prop} : ∀ {ds : List D} {rho : List Slot} {mu : Mu}, (∀ d ∈ ds, ∀ rho mu, I rho mu → ∃ rho' mu', body d rho mu = some (.fl .nx rho', mu') ∧ I rho' mu') → I rho mu → ∃ rho' mu', forL body ds rho mu = some (.fl .nx rho', mu') ∧ I rho' mu'
  | [], rho, mu, _, h => ⟨rho, mu, rfl, h⟩
  | d :: ds, rho, mu, hb, h => by
    obtain ⟨rho1, mu1, e1, h1⟩ := hb d (List.mem_cons_self ..) rho mu h
    obtain ⟨rho2, mu2, e2, h2⟩ := forL_inv (ds := ds) (fun d' hd => hb d' (List.mem_cons_of_mem _ hd)) h1
    refine ⟨rho2, mu2, ?_, h2⟩
    show (match body d rho mu with
      | none => none
      | some (.fl .nx rho', m) => forL body ds rho' m
      | some (.fl .ct rho', m) => forL body ds rho' m
      | some (.fl .bk rho', m) => some (.fl .nx rho', m)
      | r => r) = _
    rw [e1]
    exact e2
theorem atI_nat {α : Type} {xs : List α} {j : Nat} (h : j < xs.length) : atI xs (j : Int) = some xs[j] := by
  unfold atI ixN
  rw [if_pos (by omega), if_pos (by omega)]
  simp [h]
theorem seq_nx {f g : SM} {rho rho' : List Slot} {mu mu' : Mu} (h : f rho mu = some (.fl .nx rho', mu')) : sSeq f g rho mu = g rho' mu' := by
  unfold sSeq
  rw [h]
theorem set_ok {f : EM} {i : Nat} {rho : List Slot} {mu mu' : Mu} {v : Vl} (h : f rho mu = some (.ok v, mu')) : sSet i f rho mu = some (.fl .nx (rho.set i (.va v.d)), mu') := by
  unfold sSet sWith
  rw [h]
theorem for_ok {m : D → Option (List D)} {f : EM} {body : D → SM} {rho : List Slot} {mu mu' : Mu} {v : Vl} {ds : List D} (h : f rho mu = some (.ok v, mu')) (hd : m v.d = some ds) : sFor m f body rho mu = forL body ds rho mu' := by
  unfold sFor sWith
  rw [h]
  simp only [hd]
theorem fnM_seq {n : Nat} {body : SM} {ds : List D} {mu : Mu} : fnM n body ds mu = match body (ds.map Slot.va ++ List.replicate (n - ds.length) Slot.no) mu with
  | some (.fl (.rt d) _, mu') => some (.ok d, mu')
  | some (.fl .nx _, mu') => some (.ok (.fz .non), mu')
  | some (.ex c cs _, mu') => some (.ex c cs, mu')
  | _ => none := rfl
theorem mug_ok (ns : List Int) (t : Nat) : ∃ ds, m__law_mug [.scr ns, .int t] none = some (.ok (.fr ds), none) ∧ MugL ds := by
  obtain ⟨en, he⟩ : ∃ en : Int, eIf (bOf (eBin ltM (eVar 1) (eCall (m1 lenD) (aCons (eVar 0) aNil)))) (eCall (m1 intM) (aCons (eIx (eVar 0) (eVar 1)) aNil)) (eBin addA (eBin mulA (eC (.int 59)) (eVar 1)) (eC (.int 13))) [.va (.scr ns), .va (.int t), .no, .no, .no] none = some (.ok (.fz (.int en)), none) := by
    by_cases h : t < ns.length
    · refine ⟨ns[t], ?_⟩
      simp [fnM, sSeq, sNil, sMug, sWith, eBin, eIx, eVar, eC, Mi.M.bind, Mi.M.pure, Mi.M.of, Mi.M.no, slotD, ixD, atI0, atI1, atI2, Vl.d, addA, Mi.orM, addI, subI, mulA, mulS, muSet, ixN, sIf, bOf, gtM, ltM, geM, leM, cmpI, blD, sSet, modA, modI, eCall, aCons, aNil, m1, intM, divA, divS, divI, sRet, aLen, eOwn, lenD, eIf, h, atI_nat h]
    · refine ⟨59 * t + 13, ?_⟩
      simp [fnM, sSeq, sNil, sMug, sWith, eBin, eIx, eVar, eC, Mi.M.bind, Mi.M.pure, Mi.M.of, Mi.M.no, slotD, ixD, atI0, atI1, atI2, Vl.d, addA, Mi.orM, addI, subI, mulA, mulS, muSet, ixN, sIf, bOf, gtM, ltM, geM, leM, cmpI, blD, sSet, modA, modI, eCall, aCons, aNil, m1, intM, divA, divS, divI, sRet, aLen, eOwn, lenD, eIf, h]
  have hs : eSl (eVar 0) oNone (oSome (eC (.int 8))) [.va (.scr ns), .va (.int t), .va (.int en), .va (.int (30011 + 811 * t)), .no] none = some (.ok (.fr ((cutD ns none (some 8)).map D.int)), none) := by
    simp [fnM, sSeq, sNil, sMug, sWith, eBin, eIx, eVar, eC, Mi.M.bind, Mi.M.pure, Mi.M.of, Mi.M.no, slotD, ixD, atI0, atI1, atI2, Vl.d, addA, Mi.orM, addI, subI, mulA, mulS, muSet, ixN, sIf, bOf, gtM, ltM, geM, leM, cmpI, blD, sSet, modA, modI, eCall, aCons, aNil, m1, intM, divA, divS, divI, sRet, aLen, eOwn, lenD, eSl, oNone, oSome, slD, Mi.intD]
  unfold m__law_mug b__law_mug
  rw [fnM_seq]
  simp only [List.map_cons, List.map_nil, List.length_cons, List.length_nil, List.cons_append, List.nil_append]
  rw [show List.replicate (5 - (0 + 1 + 1)) Slot.no = [Slot.no, .no, .no] from rfl]
  rw [seq_nx (set_ok he)]
  simp only [List.set_cons_succ, List.set_cons_zero, Vl.d]
  rw [seq_nx (rho' := [.va (.scr ns), .va (.int t), .va (.int en), .va (.int (30011 + 811 * t)), .no]) (mu' := none) (by simp [fnM, sSeq, sNil, sMug, sWith, eBin, eIx, eVar, eC, Mi.M.bind, Mi.M.pure, Mi.M.of, Mi.M.no, slotD, ixD, atI0, atI1, atI2, Vl.d, addA, Mi.orM, addI, subI, mulA, mulS, muSet, ixN, sIf, bOf, gtM, ltM, geM, leM, cmpI, blD, sSet, modA, modI, eCall, aCons, aNil, m1, intM, divA, divS, divI, sRet, aLen, eOwn, lenD])]
  have hb : ∀ d ∈ (cutD ns none (some 8)).map D.int, ∀ rho mu, (mu = none ∧ ∃ s x, rho = [Slot.va (.scr ns), .va (.int t), .va (.int en), .va (.int s), x]) → ∃ rho' mu', sBody (fun d rho => some (rho.set 4 (.va d))) (sSet 3 (eBin modA (eCall (m1 intM) (aCons (eBin addA (eBin addA (eBin mulA (eVar 3) (eC (.int 39373))) (eBin modA (eCall (m1 intM) (aCons (eVar 4) aNil)) (eC (.int 999959)))) (eVar 1)) aNil)) (eC (.int 2147483563)))) d rho mu = some (.fl .nx rho', mu') ∧ (mu' = none ∧ ∃ s x, rho' = [Slot.va (.scr ns), .va (.int t), .va (.int en), .va (.int s), x]) := by
    rintro d hd rho mu ⟨rfl, s, x, rfl⟩
    obtain ⟨n, _, rfl⟩ := List.mem_map.mp hd
    refine ⟨[.va (.scr ns), .va (.int t), .va (.int en), .va (.int ((s * 39373 + n % 999959 + t) % 2147483563)), .va (.int n)], none, ?_, rfl, _, _, rfl⟩
    simp [fnM, sSeq, sNil, sMug, sWith, eBin, eIx, eVar, eC, Mi.M.bind, Mi.M.pure, Mi.M.of, Mi.M.no, slotD, ixD, atI0, atI1, atI2, Vl.d, addA, Mi.orM, addI, subI, mulA, mulS, muSet, ixN, sIf, bOf, gtM, ltM, geM, leM, cmpI, blD, sSet, modA, modI, eCall, aCons, aNil, m1, intM, divA, divS, divI, sRet, aLen, eOwn, lenD, sBody]
  obtain ⟨rho2, mu2, e2, rfl, s2, x2, rfl⟩ := forL_inv (I := fun rho mu => mu = none ∧ ∃ s x, rho = [Slot.va (.scr ns), .va (.int t), .va (.int en), .va (.int s), x]) hb (rho := [.va (.scr ns), .va (.int t), .va (.int en), .va (.int (30011 + 811 * t)), .no]) (mu := none) ⟨rfl, _, _, rfl⟩
  rw [seq_nx (rho' := _) (mu' := none) ((for_ok hs rfl).trans e2)]
  by_cases h : en < 0
  · by_cases h2 : (1000000000000000000 : Int) ≤ -en <;> simp [fnM, sSeq, sNil, sMug, sWith, eBin, eIx, eVar, eC, Mi.M.bind, Mi.M.pure, Mi.M.of, Mi.M.no, slotD, ixD, atI0, atI1, atI2, Vl.d, addA, Mi.orM, addI, subI, mulA, mulS, muSet, ixN, sIf, bOf, gtM, ltM, geM, leM, cmpI, blD, sSet, modA, modI, eCall, aCons, aNil, m1, intM, divA, divS, divI, sRet, aLen, eOwn, lenD, absM, mLst, eIf, powI, sRetF, h, h2, MugL]
  · by_cases h2 : (1000000000000000000 : Int) ≤ en <;> simp [fnM, sSeq, sNil, sMug, sWith, eBin, eIx, eVar, eC, Mi.M.bind, Mi.M.pure, Mi.M.of, Mi.M.no, slotD, ixD, atI0, atI1, atI2, Vl.d, addA, Mi.orM, addI, subI, mulA, mulS, muSet, ixN, sIf, bOf, gtM, ltM, geM, leM, cmpI, blD, sSet, modA, modI, eCall, aCons, aNil, m1, intM, divA, divS, divI, sRet, aLen, eOwn, lenD, absM, mLst, eIf, powI, sRetF, h, h2, MugL]
end Ev
end
section
set_option Elab.async false
set_option linter.all false
set_option maxRecDepth 100000
open PySem PySem.Spec PyProof.Rows L2 Mi Go
namespace Ev
/-- a while whose turns all go on, by a measure -/
theorem while_ok {t : BM} {body : SM} {I : List Slot → Mu → Nat → Prop} {Out : List Slot → Mu → Prop}
    (turn : ∀ k rho mu, I rho mu k → (t rho mu = some (.ok false, mu) ∧ Out rho mu) ∨ (t rho mu = some (.ok true, mu) ∧ ∃ rho' mu' k', body rho mu = some (.fl .nx rho', mu') ∧ k' < k ∧ I rho' mu' k')) :
    ∀ n k rho mu, k < n → I rho mu k → ∃ rho' mu', whileN t body n rho mu = some (.fl .nx rho', mu') ∧ Out rho' mu'
  | 0, k, _, _, h, _ => absurd h (Nat.not_lt_zero _)
  | n + 1, k, rho, mu, h, hI => by
    rcases turn k rho mu hI with ⟨e, ho⟩ | ⟨e, rho1, mu1, k1, e1, hk, h1⟩
    · refine ⟨rho, mu, ?_, ho⟩
      unfold whileN sWith
      simp only [e]
      rfl
    · obtain ⟨rho2, mu2, e2, h2⟩ := while_ok turn n k1 rho1 mu1 (by omega) h1
      refine ⟨rho2, mu2, ?_, h2⟩
      unfold whileN sWith
      simp only [e, e1, if_true]
      exact e2
theorem gcd_ok {fuel : Nat} {a b : Int} {mu : Mu} (h : b.natAbs < fuel) : m__law_gcd fuel [.int a, .int b] mu = some (.ok (.fz (.int (Int.gcd a b))), mu) := by
  have e0 : sPar 0 1 (aCons (eCall (m1 absM) (aCons (eVar 0) aNil)) (aCons (eCall (m1 absM) (aCons (eVar 1) aNil)) aNil)) [.va (.int a), .va (.int b)] mu = some (.fl .nx [.va (.int a.natAbs), .va (.int b.natAbs)], mu) := by
    have h1 : (if a < 0 then -a else a) = (a.natAbs : Int) := by omega
    have h2 : (if b < 0 then -b else b) = (b.natAbs : Int) := by omega
    simp [fnM, sSeq, sNil, sMug, sWith, eBin, eIx, eVar, eC, Mi.M.bind, Mi.M.pure, Mi.M.of, Mi.M.no, slotD, ixD, atI0, atI1, atI2, Vl.d, addA, Mi.orM, addI, subI, mulA, mulS, muSet, ixN, sIf, bOf, gtM, ltM, geM, leM, cmpI, blD, sSet, modA, modI, eCall, aCons, aNil, m1, intM, divA, divS, divI, sRet, aLen, eOwn, lenD, sPar, absM, h1, h2]
  obtain ⟨rho', mu', e1, rfl, x, y, rfl, hg, hy⟩ := while_ok (t := bOf (eBin gtM (eVar 1) (eC (.int 0)))) (body := sPar 0 1 (aCons (eVar 1) (aCons (eBin modA (eCall (m1 intM) (aCons (eVar 0) aNil)) (eVar 1)) aNil)))
    (I := fun rho m k => m = mu ∧ ∃ x y : Nat, rho = [.va (.int x), .va (.int y)] ∧ Nat.gcd x y = Int.gcd a b ∧ y = k) (Out := fun rho m => m = mu ∧ ∃ x y : Nat, rho = [.va (.int x), .va (.int y)] ∧ Nat.gcd x y = Int.gcd a b ∧ y = 0)
    (fun k rho m ⟨hm, x, y, hr, hg, hk⟩ => by
      subst hm hr hk
      by_cases hy : y = 0
      · subst hy
        left
        refine ⟨?_, rfl, x, 0, rfl, hg, rfl⟩
        simp [fnM, sSeq, sNil, sMug, sWith, eBin, eIx, eVar, eC, Mi.M.bind, Mi.M.pure, Mi.M.of, Mi.M.no, slotD, ixD, atI0, atI1, atI2, Vl.d, addA, Mi.orM, addI, subI, mulA, mulS, muSet, ixN, sIf, bOf, gtM, ltM, geM, leM, cmpI, blD, sSet, modA, modI, eCall, aCons, aNil, m1, intM, divA, divS, divI, sRet, aLen, eOwn, lenD]
      · right
        have h0 : 0 < y := Nat.pos_of_ne_zero hy
        refine ⟨?_, [.va (.int y), .va (.int (x % y : Nat))], m, x % y, ?_, Nat.mod_lt _ h0, rfl, y, x % y, rfl, ?_, rfl⟩
        · simp [fnM, sSeq, sNil, sMug, sWith, eBin, eIx, eVar, eC, Mi.M.bind, Mi.M.pure, Mi.M.of, Mi.M.no, slotD, ixD, atI0, atI1, atI2, Vl.d, addA, Mi.orM, addI, subI, mulA, mulS, muSet, ixN, sIf, bOf, gtM, ltM, geM, leM, cmpI, blD, sSet, modA, modI, eCall, aCons, aNil, m1, intM, divA, divS, divI, sRet, aLen, eOwn, lenD, h0]
        · simp [fnM, sSeq, sNil, sMug, sWith, eBin, eIx, eVar, eC, Mi.M.bind, Mi.M.pure, Mi.M.of, Mi.M.no, slotD, ixD, atI0, atI1, atI2, Vl.d, addA, Mi.orM, addI, subI, mulA, mulS, muSet, ixN, sIf, bOf, gtM, ltM, geM, leM, cmpI, blD, sSet, modA, modI, eCall, aCons, aNil, m1, intM, divA, divS, divI, sRet, aLen, eOwn, lenD, sPar, h0]
        · rw [← hg, Nat.gcd_comm x y, Nat.gcd_rec y x, Nat.gcd_comm]) fuel b.natAbs _ mu h ⟨rfl, a.natAbs, b.natAbs, rfl, rfl, rfl⟩
  subst hy
  have hx : x = Int.gcd a b := by rw [← hg, Nat.gcd_zero_right]
  unfold m__law_gcd b__law_gcd
  rw [fnM_seq]
  simp only [List.map_cons, List.map_nil, List.length_cons, List.length_nil, List.cons_append, List.nil_append]
  rw [show List.replicate (2 - (0 + 1 + 1)) Slot.no = [] from rfl, seq_nx e0, seq_nx e1]
  simp [fnM, sSeq, sNil, sMug, sWith, eBin, eIx, eVar, eC, Mi.M.bind, Mi.M.pure, Mi.M.of, Mi.M.no, slotD, ixD, atI0, atI1, atI2, Vl.d, addA, Mi.orM, addI, subI, mulA, mulS, muSet, ixN, sIf, bOf, gtM, ltM, geM, leM, cmpI, blD, sSet, modA, modI, eCall, aCons, aNil, m1, intM, divA, divS, divI, sRet, aLen, eOwn, lenD, hx]
/-- a fraction as the law writes it -/
def frD (r : Rat) : D := .tup [.int r.num, .int r.den]
theorem divA_pos {i j : Int} (h : 0 < j) (h2 : j.natAbs < 2 ^ 9000) : divA (.int i) (.int j) = some (.fz (.int (i / j))) := by
  have h3 : j.natAbs.log2 < 9000 := (Nat.log2_lt (by omega)).mpr h2
  unfold divA Mi.orM divS divI
  by_cases h4 : j < 2 ^ 64
  · simp only [if_pos (show 0 < j ∧ j < 2 ^ 64 from ⟨h, h4⟩)]
  · simp only [if_neg (show ¬ (0 < j ∧ j < 2 ^ 64) from fun z => h4 z.2), if_pos (show 0 < j ∧ j.natAbs.log2 < 9000 from ⟨h, h3⟩)]
theorem low_ok {fuel : Nat} {p q : Int} {mu : Mu} (hq : q ≠ 0) (hf : q.natAbs < fuel) (hb : q.natAbs < 2 ^ 9000) : m__law_low fuel [.int p, .int q] mu = some (.ok (.fz (frD (Rat.divInt p q))), mu) := by
  have pos : 0 < Int.gcd p q := Nat.pos_of_ne_zero fun z => hq (Int.gcd_eq_zero_iff.mp z).2
  have le : Int.gcd p q ≤ q.natAbs := Nat.le_of_dvd (Int.natAbs_pos.mpr hq) (Int.natCast_dvd_natCast.mp (Int.dvd_natAbs.mpr (Int.gcd_dvd_right ..)))
  have hn := Rat.num_divInt p q
  have hd := Rat.den_divInt p q
  rw [if_neg hq] at hd
  rw [Int.gcd_comm] at hn hd
  by_cases h : q < 0
  · have g : m__law_gcd fuel [.int (-p), .int (-q)] mu = _ := gcd_ok (by omega)
    rw [Int.gcd_neg, Int.neg_gcd] at g
    have d1 := divA_pos (i := -p) (j := (Int.gcd p q : Int)) (by omega) (by omega)
    have d2 := divA_pos (i := -q) (j := (Int.gcd p q : Int)) (by omega) (by omega)
    simp [fnM, sSeq, sNil, sMug, sWith, eBin, eIx, eVar, eC, Mi.M.bind, Mi.M.pure, Mi.M.of, Mi.M.no, slotD, ixD, atI0, atI1, atI2, Vl.d, addA, Mi.orM, addI, subI, mulA, mulS, muSet, ixN, sIf, bOf, gtM, ltM, geM, leM, cmpI, blD, sSet, modA, modI, eCall, aCons, aNil, m1, intM, sRet, aLen, eOwn, lenD, m__law_low, b__law_low, sPar, eUn, negI, h, g, d1, d2, mTup, frD]
    rw [hn, hd, Int.sign_eq_neg_one_of_neg h, Int.natCast_ediv]
    constructor
    · rw [Int.neg_one_mul]
    · rw [show ((q.natAbs : Nat) : Int) = -q by omega]
  · have g : m__law_gcd fuel [.int p, .int q] mu = _ := gcd_ok (by omega)
    have d1 := divA_pos (i := p) (j := (Int.gcd p q : Int)) (by omega) (by omega)
    have d2 := divA_pos (i := q) (j := (Int.gcd p q : Int)) (by omega) (by omega)
    simp [fnM, sSeq, sNil, sMug, sWith, eBin, eIx, eVar, eC, Mi.M.bind, Mi.M.pure, Mi.M.of, Mi.M.no, slotD, ixD, atI0, atI1, atI2, Vl.d, addA, Mi.orM, addI, subI, mulA, mulS, muSet, ixN, sIf, bOf, gtM, ltM, geM, leM, cmpI, blD, sSet, modA, modI, eCall, aCons, aNil, m1, intM, sRet, aLen, eOwn, lenD, m__law_low, b__law_low, sPar, eUn, negI, h, g, d1, d2, mTup, frD]
    rw [hn, hd, Int.sign_eq_one_of_pos (by omega), Int.natCast_ediv]
    constructor
    · rw [Int.one_mul]
    · rw [show ((q.natAbs : Nat) : Int) = q by omega]
/-- how great a fraction is written -/
def Bd (n : Nat) (r : Rat) : Prop := r.num.natAbs < 2 ^ n ∧ r.den < 2 ^ n
theorem divInt_add (r s : Rat) : Rat.divInt (r.num * s.den + s.num * r.den) (r.den * s.den) = r + s := by
  rw [← Rat.divInt_add_divInt _ _ (Int.natCast_ne_zero.mpr r.den_nz) (Int.natCast_ne_zero.mpr s.den_nz), Rat.divInt_ofNat, Rat.divInt_ofNat, Rat.mkRat_self, Rat.mkRat_self]
theorem divInt_mul (r s : Rat) : Rat.divInt (r.num * s.num) (r.den * s.den) = r * s := by
  rw [← Rat.divInt_mul_divInt, Rat.divInt_ofNat, Rat.divInt_ofNat, Rat.mkRat_self, Rat.mkRat_self]
theorem log_of {i : Int} {n : Nat} (h : i.natAbs < 2 ^ n) (hn : 0 < n) : i.natAbs.log2 < n := by
  by_cases z : i.natAbs = 0
  · rw [z]
    exact hn
  · exact (Nat.log2_lt z).mpr h
theorem mulA_ok {i j : Int} (hi : i.natAbs < 2 ^ 100000) (hj : j.natAbs < 2 ^ 100000) : mulA (.int i) (.int j) = some (.fz (.int (i * j))) := by
  have h1 := log_of hi (by decide)
  have h2 := log_of hj (by decide)
  unfold mulA Mi.orM mulS
  by_cases h : i.natAbs < 2 ^ 64 ∨ j.natAbs < 2 ^ 64
  · simp only [if_pos h]
  · simp only [if_neg h]
    unfold mulI
    simp only [if_pos (show i.natAbs.log2 + j.natAbs.log2 < 1000000 by omega)]
theorem pw_le {a b : Nat} (h : a ≤ b) : 2 ^ a ≤ 2 ^ b := Nat.pow_le_pow_right (by decide) h
theorem mul_lt {a b m n : Nat} (ha : a < 2 ^ m) (hb : b < 2 ^ n) : a * b < 2 ^ (m + n) := by
  rw [Nat.pow_add]
  exact Nat.mul_lt_mul'' ha hb
/-- a fraction of less than n binary digits above and below -/
structure Sm (n : Nat) (r : Rat) : Prop where
  num : r.num.natAbs < 2 ^ n
  den : r.den < 2 ^ n
theorem atI20 {α : Type} (a b : α) : atI [a, b] 0 = some a := rfl
theorem atI21 {α : Type} (a b : α) : atI [a, b] 1 = some b := rfl
theorem plus_ok {fuel n : Nat} {r s : Rat} {mu : Mu} (hr : Sm n r) (hs : Sm n s) (hn : n ≤ 4000) (hf : 2 ^ 8000 ≤ fuel) : m__law_plus fuel [frD r, frD s] mu = some (.ok (.fz (frD (r + s))), mu) := by
  have hw : 2 ^ n ≤ 2 ^ 4000 := pw_le hn
  have hz : 2 ^ 4000 ≤ 2 ^ 100000 := pw_le (by decide)
  obtain ⟨r1, r2⟩ := hr
  obtain ⟨s1, s2⟩ := hs
  have hq : (r.den * s.den : Int).natAbs < 2 ^ 8000 := by
    rw [Int.natAbs_mul, Int.natAbs_natCast, Int.natAbs_natCast]
    exact Nat.lt_of_lt_of_le (mul_lt r2 s2) (pw_le (by omega))
  have nz : (r.den * s.den : Int) ≠ 0 := Int.mul_ne_zero (Int.natCast_ne_zero.mpr r.den_nz) (Int.natCast_ne_zero.mpr s.den_nz)
  have g := low_ok (fuel := fuel) (p := r.num * s.den + s.num * r.den) (q := r.den * s.den) (mu := mu) nz (Nat.lt_of_lt_of_le hq hf) (Nat.lt_of_lt_of_le hq (pw_le (by decide)))
  rw [divInt_add] at g
  have m1' := mulA_ok (i := r.num) (j := s.den) (by omega) (by rw [Int.natAbs_natCast]; omega)
  have m2' := mulA_ok (i := s.num) (j := r.den) (by omega) (by rw [Int.natAbs_natCast]; omega)
  have m3' := mulA_ok (i := (r.den : Int)) (j := s.den) (by rw [Int.natAbs_natCast]; omega) (by rw [Int.natAbs_natCast]; omega)
  show m__law_plus fuel [.tup [.int r.num, .int r.den], .tup [.int s.num, .int s.den]] mu = _
  simp [fnM, sSeq, sNil, sMug, sWith, eBin, eIx, eVar, eC, Mi.M.bind, Mi.M.pure, Mi.M.of, Mi.M.no, slotD, ixD, atI0, atI1, atI2, Vl.d, addA, Mi.orM, addI, subI, muSet, ixN, sIf, bOf, gtM, ltM, geM, leM, cmpI, blD, sSet, modA, modI, eCall, aCons, aNil, m1, intM, sRet, aLen, eOwn, lenD, m__law_plus, b__law_plus, m1', m2', m3', g, atI20, atI21]
theorem mult_ok {fuel n : Nat} {r s : Rat} {mu : Mu} (hr : Sm n r) (hs : Sm n s) (hn : n ≤ 4000) (hf : 2 ^ 8000 ≤ fuel) : m__law_mult fuel [frD r, frD s] mu = some (.ok (.fz (frD (r * s))), mu) := by
  have hw : 2 ^ n ≤ 2 ^ 4000 := pw_le hn
  have hz : 2 ^ 4000 ≤ 2 ^ 100000 := pw_le (by decide)
  obtain ⟨r1, r2⟩ := hr
  obtain ⟨s1, s2⟩ := hs
  have hq : (r.den * s.den : Int).natAbs < 2 ^ 8000 := by
    rw [Int.natAbs_mul, Int.natAbs_natCast, Int.natAbs_natCast]
    exact Nat.lt_of_lt_of_le (mul_lt r2 s2) (pw_le (by omega))
  have nz : (r.den * s.den : Int) ≠ 0 := Int.mul_ne_zero (Int.natCast_ne_zero.mpr r.den_nz) (Int.natCast_ne_zero.mpr s.den_nz)
  have g := low_ok (fuel := fuel) (p := r.num * s.num) (q := r.den * s.den) (mu := mu) nz (Nat.lt_of_lt_of_le hq hf) (Nat.lt_of_lt_of_le hq (pw_le (by decide)))
  rw [divInt_mul] at g
  have m1' := mulA_ok (i := r.num) (j := s.num) (by omega) (by omega)
  have m3' := mulA_ok (i := (r.den : Int)) (j := s.den) (by rw [Int.natAbs_natCast]; omega) (by rw [Int.natAbs_natCast]; omega)
  show m__law_mult fuel [.tup [.int r.num, .int r.den], .tup [.int s.num, .int s.den]] mu = _
  simp [fnM, sSeq, sNil, sMug, sWith, eBin, eIx, eVar, eC, Mi.M.bind, Mi.M.pure, Mi.M.of, Mi.M.no, slotD, ixD, atI0, atI1, atI2, Vl.d, addA, Mi.orM, addI, subI, muSet, ixN, sIf, bOf, gtM, ltM, geM, leM, cmpI, blD, sSet, modA, modI, eCall, aCons, aNil, m1, intM, sRet, aLen, eOwn, lenD, m__law_mult, b__law_mult, m1', m3', g, atI20, atI21]
end Ev
end
section
set_option Elab.async false
set_option linter.all false
set_option maxRecDepth 100000
open PySem PySem.Spec PyProof.Rows L2 Mi Go
namespace Ev
/-- a comprehension whose element changes the mug: every turn yields something that P says -/
theorem lcL_inv {put : D → List Slot → Option (List Slot)} {t : BM} {f : EM} {rho : List Slot} {I : Mu → Prop} {P : D → Prop} : ∀ {ds acc : List D} {mu : Mu},
    (∀ d ∈ ds, ∀ mu, I mu → ∃ rho' v mu', put d rho = some rho' ∧ t rho' mu = some (.ok true, mu) ∧ f rho' mu = some (.ok v, mu') ∧ I mu' ∧ P v.d) → I mu → acc.length + ds.length ≤ 100000 →
    ∃ out mu', lcL put t f rho ds acc mu = some (acc ++ out, mu') ∧ out.length = ds.length ∧ (∀ x ∈ out, P x) ∧ I mu'
  | [], acc, mu, _, hI, _ => ⟨[], mu, by rw [List.append_nil]; rfl, rfl, nofun, hI⟩
  | d :: ds, acc, mu, h, hI, hl => by
    obtain ⟨rho', v, mu1, e1, e2, e3, h1, hp⟩ := h d (List.mem_cons_self ..) mu hI
    have hl' : acc.length + (ds.length + 1) ≤ 100000 := hl
    obtain ⟨out, mu2, e4, l4, p4, h4⟩ := lcL_inv (ds := ds) (acc := acc ++ [v.d]) (fun d' hd => h d' (List.mem_cons_of_mem _ hd)) h1 (by rw [List.length_append]; simp only [List.length_cons, List.length_nil]; omega)
    refine ⟨v.d :: out, mu2, ?_, by rw [List.length_cons, l4, List.length_cons], fun x hx => ?_, h4⟩
    · unfold lcL
      simp only [e1, e2, e3]
      rw [if_pos (by omega), e4, List.append_assoc]
      rfl
    · rcases List.mem_cons.mp hx with z | z
      · rw [z]
        exact hp
      · exact p4 x z
/-- a comprehension that looks alone -/
theorem lcL_look {put : D → List Slot → Option (List Slot)} {t : BM} {f : EM} {rho : List Slot} {mu : Mu} {p : D → Bool} {g : D → D} : ∀ {ds acc : List D},
    (∀ d ∈ ds, ∃ rho', put d rho = some rho' ∧ t rho' mu = some (.ok (p d), mu) ∧ (p d = true → ∃ v, f rho' mu = some (.ok v, mu) ∧ v.d = g d)) → acc.length + ds.length ≤ 100000 →
    lcL put t f rho ds acc mu = some (acc ++ (ds.filter p).map g, mu)
  | [], acc, _, _ => by
    show some (acc, mu) = _
    simp
  | d :: ds, acc, h, hl => by
    obtain ⟨rho', e1, e2, e3⟩ := h d (List.mem_cons_self ..)
    have hl' : acc.length + (ds.length + 1) ≤ 100000 := hl
    cases hp : p d with
    | true =>
      obtain ⟨v, e4, e5⟩ := e3 hp
      have ih := lcL_look (ds := ds) (acc := acc ++ [v.d]) (fun d' hd => h d' (List.mem_cons_of_mem _ hd)) (by rw [List.length_append]; simp only [List.length_cons, List.length_nil]; omega)
      unfold lcL
      rw [hp] at e2
      simp only [e1, e2, e4]
      rw [if_pos (by omega), ih, List.filter_cons, if_pos hp, List.append_assoc, e5]
      rfl
    | false =>
      have ih := lcL_look (ds := ds) (acc := acc) (fun d' hd => h d' (List.mem_cons_of_mem _ hd)) (by omega)
      unfold lcL
      rw [hp] at e2
      simp only [e1, e2]
      rw [ih, List.filter_cons, if_neg (by rw [hp]; exact Bool.false_ne_true)]
theorem upI_map : ∀ (n : Nat) (lo : Int), upI lo n = (List.range n).map fun i => D.int (lo + (i : Nat))
  | 0, _ => rfl
  | n + 1, lo => by
    show D.int lo :: upI (lo + 1) n = _
    rw [upI_map n (lo + 1), List.range_succ_eq_map, List.map_cons, List.map_map]
    congr 1
    · simp
    · refine List.map_congr_left fun i _ => ?_
      show D.int (lo + 1 + i) = D.int (lo + (i + 1 : Nat))
      congr 1
      omega
/-- knots as this law draws them -/
structure Knots (g : Nat) (ts : List Int) (top : Int) : Prop where
  len : g + 2 ≤ ts.length
  srt : ts.Pairwise (· ≤ ·)
  gap : ∀ k, k + g + 1 < ts.length → ts[k]! < ts[k + g + 1]!
  low : ∀ t ∈ ts, 0 ≤ t ∧ t ≤ top
end Ev
end
section
set_option Elab.async false
set_option linter.all false
set_option maxRecDepth 100000
open PySem PySem.Spec PyProof.Rows L2 Mi Go
namespace Ev
theorem as_ints {P : Int → Prop} : ∀ {out : List D}, (∀ x ∈ out, ∃ r, x = .int r ∧ P r) → ∃ ns : List Int, out = ns.map D.int ∧ ∀ r ∈ ns, P r
  | [], _ => ⟨[], rfl, nofun⟩
  | x :: out, h => by
    obtain ⟨r, rfl, hr⟩ := h x (List.mem_cons_self ..)
    obtain ⟨ns, rfl, hn⟩ := as_ints (out := out) fun y hy => h y (List.mem_cons_of_mem _ hy)
    exact ⟨r :: ns, rfl, fun s hs => (List.mem_cons.mp hs).elim (fun z => z ▸ hr) (hn s)⟩
theorem put_ok {f : EM} {put : D → List Slot → Option (List Slot)} {rho rho' : List Slot} {mu mu' : Mu} {v : Vl} (h : f rho mu = some (.ok v, mu')) (hp : put v.d rho = some rho') : sPut put f rho mu = some (.fl .nx rho', mu') := by
  unfold sPut sWith
  rw [h]
  simp only [hp]
abbrev dr0 (mh most : Int) (a b c d : Slot) : List Slot := [.va .mug, .va (.int mh), .va (.int most), a, b, c, d, .no]
/-- the degree and the number of hills -/
theorem draft1 {ds : List D} {mh most : Int} (hm : MugL ds) (h1 : 0 < mh) (h2 : mh < 1000) : ∃ (g m : Nat) (ds' : List D), g ≤ 4 ∧ 1 ≤ m ∧ (m : Int) ≤ mh ∧ MugL ds' ∧
    eCall mTup (aCons (eOwn m__law_pick (aLen 2 (aCons (eVar 0) (aCons (eCall mLst (aCons (eC (.int 0)) (aCons (eC (.int 1)) (aCons (eC (.int 1)) (aCons (eC (.int 2)) (aCons (eC (.int 2)) (aCons (eC (.int 3)) (aCons (eC (.int 4)) aNil)))))))) aNil)))) (aCons (eBin addA (eC (.int 1)) (eOwn m__law_sip (aLen 2 (aCons (eVar 0) (aCons (eVar 1) aNil))))) aNil)) (dr0 mh most .no .no .no .no) (some ds) = some (.ok (.fz (.tup [.int g, .int m])), some ds') := by
  obtain ⟨d, ds1, e1, hm1, hd⟩ := pick_ok (xs := [.int 0, .int 1, .int 1, .int 2, .int 2, .int 3, .int 4]) hm (by simp) (by decide)
  obtain ⟨g, hg, rfl⟩ : ∃ g : Nat, g ≤ 4 ∧ d = .int g := by
    simp only [List.mem_cons, List.not_mem_nil, or_false] at hd
    rcases hd with rfl | rfl | rfl | rfl | rfl | rfl | rfl
    · exact ⟨0, by decide, rfl⟩
    · exact ⟨1, by decide, rfl⟩
    · exact ⟨1, by decide, rfl⟩
    · exact ⟨2, by decide, rfl⟩
    · exact ⟨2, by decide, rfl⟩
    · exact ⟨3, by decide, rfl⟩
    · exact ⟨4, by decide, rfl⟩
  obtain ⟨r, ds2, e2, hm2, r1, r2⟩ := sip_ok (top := mh) hm1 h1 (by omega)
  obtain ⟨j, rfl⟩ := Int.eq_ofNat_of_zero_le r1
  refine ⟨g, j + 1, ds2, hg, by omega, by omega, hm2, ?_⟩
  simp [fnM, sSeq, sNil, sMug, sWith, eBin, eIx, eVar, eC, Mi.M.bind, Mi.M.pure, Mi.M.of, Mi.M.no, slotD, ixD, atI0, atI1, atI2, Vl.d, addA, Mi.orM, addI, subI, mulA, mulS, muSet, ixN, sIf, bOf, gtM, ltM, geM, leM, cmpI, blD, sSet, modA, modI, eCall, aCons, aNil, m1, intM, divA, divS, divI, sRet, aLen, eOwn, lenD, mTup, mLst, e1, e2, dr0]
  omega
theorem lcR_ok {rg : List D → Option (Int × Nat)} {fi : AM} {put : D → List Slot → Option (List Slot)} {vs : List Nat} {t : BM} {f : EM} {rho : List Slot} {mu mu1 mu2 : Mu} {args out : List D} {lo : Int} {n : Nat} (h1 : fi rho mu = some (.ok args, mu1)) (h2 : rg args = some (lo, n)) (h3 : lcL put t f (wipeR rho vs) (upI lo n) [] mu1 = some (out, mu2)) : eLcR rg fi put vs t f rho mu = some (.ok (.fr out), mu2) := by
  unfold eLcR M.bind
  rw [h1]
  simp only [h2, h3]
theorem lc_ok {m : D → Option (List D)} {fi : EM} {put : D → List Slot → Option (List Slot)} {vs : List Nat} {t : BM} {f : EM} {rho : List Slot} {mu mu1 mu2 : Mu} {v : Vl} {ds out : List D} (h1 : fi rho mu = some (.ok v, mu1)) (h2 : m v.d = some ds) (h3 : lcL put t f (wipeR rho vs) ds [] mu1 = some (out, mu2)) : eLc m fi put vs t f rho mu = some (.ok (.fr out), mu2) := by
  unfold eLc M.bind
  rw [h1]
  simp only [h2, h3]
/-- the drawn knots -/
theorem draft2 {ds : List D} {mh most : Int} {g m : Nat} (hm : MugL ds) (h1 : 0 ≤ most) (h2 : most < 10000000) (hg : g ≤ 4) (hm1 : m ≤ 1000) : ∃ (ns : List Int) (ds' : List D), ns.length = m + g + 1 ∧ (∀ t ∈ ns, 0 ≤ t ∧ t ≤ most) ∧ MugL ds' ∧
    eLcR rng1 (aCons (eBin addA (eBin addA (eVar 4) (eVar 3)) (eC (.int 1))) aNil) (fun d rho => some (rho.set 5 (.va d))) [5] bYes (eOwn m__law_sip (aLen 2 (aCons (eVar 0) (aCons (eBin addA (eVar 2) (eC (.int 1))) aNil)))) (dr0 mh most (.va (.int g)) (.va (.int m)) .no .no) (some ds) = some (.ok (.fr (ns.map .int)), some ds') := by
  obtain ⟨out, mu', e, hl, hp, d', rfl, hm'⟩ := lcL_inv (put := fun d rho => some (rho.set 5 (.va d))) (t := bYes) (f := eOwn m__law_sip (aLen 2 (aCons (eVar 0) (aCons (eBin addA (eVar 2) (eC (.int 1))) aNil)))) (rho := wipeR (dr0 mh most (.va (.int g)) (.va (.int m)) .no .no) [5]) (I := fun mu => ∃ d, mu = some d ∧ MugL d) (P := fun x => ∃ r, x = .int r ∧ 0 ≤ r ∧ r ≤ most) (ds := upI 0 (m + g + 1)) (acc := []) (mu := some ds)
    (fun d _ mu ⟨d0, hmu, h0⟩ => by
      subst hmu
      obtain ⟨r, d1, e1, hm1, r1, r2⟩ := sip_ok (top := most + 1) h0 (by omega) (by omega)
      refine ⟨_, .fz (.int r), some d1, rfl, rfl, ?_, ⟨d1, rfl, hm1⟩, r, rfl, r1, by omega⟩
      simp [fnM, sSeq, sNil, sMug, sWith, eBin, eIx, eVar, eC, Mi.M.bind, Mi.M.pure, Mi.M.of, Mi.M.no, slotD, ixD, atI0, atI1, atI2, Vl.d, addA, Mi.orM, addI, subI, mulA, mulS, muSet, ixN, sIf, bOf, gtM, ltM, geM, leM, cmpI, blD, sSet, modA, modI, eCall, aCons, aNil, m1, intM, divA, divS, divI, sRet, aLen, eOwn, lenD, dr0, wipeR, e1]) ⟨ds, rfl, hm⟩ (by rw [upI_len]; simp; omega)
  obtain ⟨ns, rfl, hn⟩ := as_ints hp
  refine ⟨ns, d', ?_, hn, hm', ?_⟩
  · rw [upI_len, List.length_map] at hl
    exact hl
  · refine lcR_ok (args := [.int ((m : Int) + g + 1)]) (mu1 := some ds) (lo := 0) (n := m + g + 1) (by simp [fnM, sSeq, sNil, sMug, sWith, eBin, eIx, eVar, eC, Mi.M.bind, Mi.M.pure, Mi.M.of, Mi.M.no, slotD, ixD, atI0, atI1, atI2, Vl.d, addA, Mi.orM, addI, subI, mulA, mulS, muSet, ixN, sIf, bOf, gtM, ltM, geM, leM, cmpI, blD, sSet, modA, modI, eCall, aCons, aNil, m1, intM, divA, divS, divI, sRet, aLen, eOwn, lenD, dr0]) ?_ e
    show (if -1000000 ≤ (m : Int) + g + 1 ∧ (m : Int) + g + 1 ≤ 100000000 then some ((0 : Int), ((m : Int) + g + 1).toNat) else none) = _
    rw [if_pos (by omega)]
    congr 2
theorem sort_ok (ns : List Int) : sortM (.lst (ns.map .int)) = some (.fr ((sortI ns).map .int)) := by
  show (listI (.lst (ns.map .int))).map _ = _
  rw [show listI (.lst (ns.map D.int)) = some ns from intsD_map ns]
  rfl
theorem bi_ok {m : List D → Option Vl} {g : AM} {rho : List Slot} {mu mu' : Mu} {ds : List D} {v : Vl} (h : g rho mu = some (.ok ds, mu')) (hm : m ds = some v) : eCall m g rho mu = some (.ok v, mu') := by
  unfold eCall M.bind
  rw [h]
  simp only [hm]
  rfl
theorem args1 {f : EM} {rho : List Slot} {mu mu' : Mu} {v : Vl} (h : f rho mu = some (.ok v, mu')) : aCons f aNil rho mu = some (.ok [v.d], mu') := by
  unfold aCons M.bind
  rw [h]
  rfl
/-- the indexes of knots that are too many alike -/
def badI (g : Nat) (ts : List Int) : List Nat := (List.range (ts.length - g - 1)).filter fun k => decide (ts[k]! = ts[k + g + 1]!)
end Ev
end
section
set_option Elab.async false
set_option linter.all false
set_option maxRecDepth 100000
open PySem PySem.Spec PyProof.Rows L2 Mi Go
namespace Ev
theorem toPys_ints : ∀ ns : List Int, toPys (ns.map D.int) = some (ns.map PyData.int)
  | [] => rfl
  | n :: ns => by
    show (match toPy (.int n), toPys (ns.map D.int) with
      | some p, some ps => some (p :: ps)
      | _, _ => none) = _
    rw [toPys_ints ns]
    rfl
theorem canLay_ints : ∀ ns : List Int, PyData.canLayAll0 (ns.map PyData.int) = true
  | [] => rfl
  | n :: ns => by
    show (PyData.canLay0 (.int n) && PyData.canLayAll0 (ns.map PyData.int)) = true
    rw [canLay_ints ns]
    rfl
theorem depth_ints : ∀ ns : List Int, PyData.depthAll (ns.map PyData.int) ≤ 1
  | [] => by simp [PyData.depthAll]
  | n :: ns => by
    have := depth_ints ns
    simp only [List.map_cons, PyData.depthAll, PyData.depth]
    omega
theorem shaped_ints (ns : List Int) : SeqAt.shaped (.list (ns.map PyData.int)) = true := by
  have h := depth_ints ns
  unfold SeqAt.shaped
  rw [Bool.and_eq_true]
  refine ⟨canLay_ints ns, decide_eq_true ?_⟩
  simp only [PyData.depth]
  omega
theorem eqv_ints : ∀ (ns ms : List Int), PyData.eqvAll (ns.map PyData.int) (ms.map PyData.int) = decide (ns = ms)
  | [], [] => rfl
  | [], _ :: _ => rfl
  | _ :: _, [] => rfl
  | n :: ns, m :: ms => by
    show (PyData.eqv (.int n) (.int m) && PyData.eqvAll (ns.map PyData.int) (ms.map PyData.int)) = _
    rw [eqv_ints ns ms]
    show ((n == m) && decide (ns = ms)) = _
    by_cases h : n = m <;> by_cases h2 : ns = ms <;> simp [h, h2]
theorem ne_ints (ns ms : List Int) : neM (.lst (ns.map .int)) (.lst (ms.map .int)) = some (.fz (.bl (!decide (ns = ms)))) := by
  show (match eqSc true (.lst (ns.map D.int)) (.lst (ms.map D.int)) with
    | some z => some z
    | none => eqPy true (.lst (ns.map D.int)) (.lst (ms.map D.int))) = _
  have e : eqSc true (.lst (ns.map D.int)) (.lst (ms.map D.int)) = none := rfl
  rw [e]
  show eqPy true (.lst (ns.map D.int)) (.lst (ms.map D.int)) = _
  unfold eqPy
  have a1 : toPy (.lst (ns.map D.int)) = some (.list (ns.map PyData.int)) := by
    show (toPys (ns.map D.int)).map _ = _
    rw [toPys_ints]
    rfl
  have a2 : toPy (.lst (ms.map D.int)) = some (.list (ms.map PyData.int)) := by
    show (toPys (ms.map D.int)).map _ = _
    rw [toPys_ints]
    rfl
  rw [a1, a2]
  show (if (SeqAt.shaped (.list (ns.map PyData.int)) && SeqAt.shaped (.list (ms.map PyData.int))) = true then _ else _) = _
  rw [shaped_ints, shaped_ints, if_pos rfl]
  show some (Vl.fz (.bl (!PyData.eqvAll (ns.map PyData.int) (ms.map PyData.int)))) = _
  rw [eqv_ints]
theorem ne_nil (ns : List Int) : neM (.lst (ns.map .int)) (.lst []) = some (.fz (.bl (!decide (ns = [])))) := ne_ints ns []
theorem eq_int (i j : Int) : eqM (.int i) (.int j) = some (.fz (.bl (decide (i = j)))) := by
  show (match eqSc false (.int i) (.int j) with
    | some z => some z
    | none => eqPy false (.int i) (.int j)) = _
  have e : eqSc false (.int i) (.int j) = some (.fz (.bl (decide (V.int i = V.int j)))) := rfl
  rw [e]
  show some (Vl.fz (.bl (decide (V.int i = V.int j)))) = _
  congr 3
  by_cases h : i = j <;> simp [h]
theorem get_int {ts : List Int} {k : Nat} (h : k < ts.length) : atI (ts.map D.int) (k : Int) = some (.int ts[k]!) := by
  rw [atI_nat (by rw [List.length_map]; exact h), List.getElem_map, getElem!_pos ts k h]
/-- the look for knots that are too many alike -/
theorem bad_ok {ts : List Int} {g : Nat} {ds : List D} {x y z w : Slot} {mh most : Int} (hl : ts.length ≤ 10000) (hg : g ≤ 4) :
    eLcR rng1 (aCons (eBin subI (eBin subI (eCall (m1 lenD) (aCons (eVar 6) aNil)) (eVar 3)) (eC (.int 1))) aNil) (fun d rho => some (rho.set 5 (.va d))) [5] (bOf (eBin eqM (eIx (eVar 6) (eVar 5)) (eIx (eVar 6) (eBin addA (eBin addA (eVar 5) (eVar 3)) (eC (.int 1)))))) (eVar 5)
      [.va .mug, .va (.int mh), .va (.int most), .va (.int g), y, z, .va (.lst (ts.map .int)), w] (some ds) = some (.ok (.fr ((badI g ts).map fun k : Nat => D.int (k : Int))), some ds) := by
  have look := lcL_look (put := fun d rho => some (rho.set 5 (.va d))) (t := bOf (eBin eqM (eIx (eVar 6) (eVar 5)) (eIx (eVar 6) (eBin addA (eBin addA (eVar 5) (eVar 3)) (eC (.int 1)))))) (f := eVar 5) (rho := wipeR [.va .mug, .va (.int mh), .va (.int most), .va (.int g), y, z, .va (.lst (ts.map .int)), w] [5]) (mu := some ds)
    (p := fun d => match d with
      | .int k => decide (ts[k.toNat]! = ts[k.toNat + g + 1]!)
      | _ => false) (g := id) (ds := upI 0 (ts.length - g - 1)) (acc := []) (fun d hd => by
      rw [upI_map] at hd
      obtain ⟨k, hk, rfl⟩ := List.mem_map.mp hd
      rw [List.mem_range] at hk
      have e1 := get_int (ts := ts) (k := k) (by omega)
      have e2 : atI (ts.map D.int) ((k : Int) + g + 1) = some (.int ts[k + g + 1]!) := by
        rw [show ((k : Int) + g + 1) = ((k + g + 1 : Nat) : Int) by omega]
        exact get_int (by omega)
      refine ⟨_, rfl, ?_, fun _ => ⟨.fz (.int k), ?_, ?_⟩⟩
      · simp [fnM, sSeq, sNil, sMug, sWith, eBin, eIx, eVar, eC, Mi.M.bind, Mi.M.pure, Mi.M.of, Mi.M.no, slotD, ixD, atI0, atI1, atI2, Vl.d, addA, Mi.orM, addI, subI, mulA, mulS, muSet, ixN, sIf, bOf, gtM, ltM, geM, leM, cmpI, blD, sSet, modA, modI, eCall, aCons, aNil, m1, intM, divA, divS, divI, sRet, aLen, eOwn, lenD, wipeR, e1, e2, eq_int]
      · simp [fnM, sSeq, sNil, sMug, sWith, eBin, eIx, eVar, eC, Mi.M.bind, Mi.M.pure, Mi.M.of, Mi.M.no, slotD, ixD, atI0, atI1, atI2, Vl.d, addA, Mi.orM, addI, subI, mulA, mulS, muSet, ixN, sIf, bOf, gtM, ltM, geM, leM, cmpI, blD, sSet, modA, modI, eCall, aCons, aNil, m1, intM, divA, divS, divI, sRet, aLen, eOwn, lenD, wipeR]
      · simp [Vl.d]) (by rw [upI_len]; simp; omega)
  have e0 : (upI 0 (ts.length - g - 1)).filter (fun d => match d with
      | .int k => decide (ts[k.toNat]! = ts[k.toNat + g + 1]!)
      | _ => false) = (badI g ts).map fun k : Nat => D.int (k : Int) := by
    rw [upI_map]
    unfold badI
    rw [List.filter_map]
    congr 1
    · funext k
      simp
    · refine List.filter_congr fun k _ => ?_
      simp
  rw [e0, List.map_id, List.nil_append] at look
  refine lcR_ok (args := [.int ((ts.length : Int) - g - 1)]) (mu1 := some ds) (lo := 0) (n := ts.length - g - 1) ?_ ?_ look
  · simp [fnM, sSeq, sNil, sMug, sWith, eBin, eIx, eVar, eC, Mi.M.bind, Mi.M.pure, Mi.M.of, Mi.M.no, slotD, ixD, atI0, atI1, atI2, Vl.d, addA, Mi.orM, addI, subI, mulA, mulS, muSet, ixN, sIf, bOf, gtM, ltM, geM, leM, cmpI, blD, sSet, modA, modI, eCall, aCons, aNil, m1, intM, divA, divS, divI, sRet, aLen, eOwn, lenD]
  · show (if -1000000 ≤ (ts.length : Int) - g - 1 ∧ (ts.length : Int) - g - 1 ≤ 100000000 then some ((0 : Int), ((ts.length : Int) - g - 1).toNat) else none) = _
    rw [if_pos (by omega)]
    congr 2
    omega
end Ev
end
section
set_option Elab.async false
set_option linter.all false
set_option maxRecDepth 100000
open PySem PySem.Spec PyProof.Rows L2 Mi Go
namespace Ev
/-- from the place p on, each one greater by 1 -/
def liftI (p : Nat) (ts : List Int) : List Int := ts.take p ++ (ts.drop p).map (· + 1)
theorem lift_len {p : Nat} {ts : List Int} : (liftI p ts).length = ts.length := by
  unfold liftI
  rw [List.length_append, List.length_map, List.length_take, List.length_drop]
  omega
theorem lift_get {p i : Nat} {ts : List Int} (hi : i < ts.length) : (liftI p ts)[i]! = if i < p then ts[i]! else ts[i]! + 1 := by
  unfold liftI
  rw [List.getElem!_eq_getElem?_getD, List.getElem!_eq_getElem?_getD, List.getElem?_append, List.length_take]
  by_cases h : i < p
  · rw [if_pos h, if_pos (by omega), List.getElem?_take, if_pos h]
  · rw [if_neg h, if_neg (by omega), List.getElem?_map, List.getElem?_drop, show p + (i - min p ts.length) = i by omega, List.getElem?_eq_getElem hi]
    rfl
/-- knots in order, the first k0 of them not too many alike -/
structure KI (g n k0 : Nat) (top : Int) (ts : List Int) : Prop where
  len : ts.length = n
  srt : ∀ i j, i ≤ j → j < n → ts[i]! ≤ ts[j]!
  low : ∀ i, i < n → 0 ≤ ts[i]! ∧ ts[i]! ≤ top + k0
  gap : ∀ j, j < k0 → j + g + 1 < n → ts[j]! < ts[j + g + 1]!
  k0n : k0 ≤ n
theorem bad_mem {g k : Nat} {ts : List Int} : k ∈ badI g ts ↔ k + g + 1 < ts.length ∧ ts[k]! = ts[k + g + 1]! := by
  unfold badI
  rw [List.mem_filter, List.mem_range, decide_eq_true_eq]
  constructor
  · rintro ⟨h1, h2⟩
    exact ⟨by omega, h2⟩
  · rintro ⟨h1, h2⟩
    exact ⟨by omega, h2⟩
theorem bad_first {g k : Nat} {ts : List Int} {r : List Nat} (h : badI g ts = k :: r) : ∀ j, j < k → j ∉ badI g ts := by
  have hp : (badI g ts).Pairwise (· < ·) := (List.pairwise_lt_range).filter _
  rw [h] at hp ⊢
  intro j hj hm
  rcases List.mem_cons.mp hm with z | z
  · omega
  · have := (List.pairwise_cons.mp hp).1 j z
    omega
theorem ki_step {g n k0 k : Nat} {top : Int} {ts : List Int} {r : List Nat} (K : KI g n k0 top ts) (h : badI g ts = k :: r) : k0 ≤ k ∧ k < n ∧ KI g n (k + 1) top (liftI (k + g + 1) ts) := by
  have hk := bad_mem.mp (show k ∈ badI g ts by rw [h]; exact List.mem_cons_self)
  have hf := bad_first h
  have hl := K.len
  have h0 : k0 ≤ k := Nat.le_of_not_lt fun z => by
    have := K.gap k z (by omega)
    omega
  refine ⟨h0, by omega, ⟨by rw [lift_len]; exact hl, fun i j hij hj => ?_, fun i hi => ?_, fun j hj hjn => ?_, by omega⟩⟩
  · rw [lift_get (by omega), lift_get (by omega)]
    have := K.srt i j hij hj
    split <;> split <;> omega
  · rw [lift_get (by omega)]
    have := K.low i hi
    split <;> omega
  · rw [lift_get (by omega), lift_get (by omega), if_pos (by omega)]
    by_cases e : j = k
    · subst e
      rw [if_neg (by omega)]
      omega
    · rw [if_pos (by omega)]
      have s := K.srt j (j + g + 1) (by omega) (by omega)
      have nb := hf j (by omega)
      rw [bad_mem] at nb
      have : ts[j]! ≠ ts[j + g + 1]! := fun z => nb ⟨by omega, z⟩
      omega
theorem ki_done {g n k0 : Nat} {top : Int} {ts : List Int} (K : KI g n k0 top ts) (h : badI g ts = []) : ∀ j, j + g + 1 < n → ts[j]! < ts[j + g + 1]! := fun j hj => by
  have s := K.srt j (j + g + 1) (by omega) hj
  have nb : j ∉ badI g ts := by rw [h]; exact List.not_mem_nil
  rw [bad_mem] at nb
  have hl := K.len
  have : ts[j]! ≠ ts[j + g + 1]! := fun z => nb ⟨by omega, z⟩
  omega
end Ev
end
section
set_option Elab.async false
set_option linter.all false
set_option maxRecDepth 100000
open PySem PySem.Spec PyProof.Rows L2 Mi Go
namespace Ev
theorem cut_take {α : Type} {xs : List α} {p : Nat} (h : p ≤ xs.length) : Mi.cutD xs none (some (p : Int)) = xs.take p := by
  unfold Mi.cutD
  rw [HT.sIx_nat, HT.sIx_none, Nat.min_eq_left h]
  simp
theorem cut_drop {α : Type} {xs : List α} {p : Nat} (h : p ≤ xs.length) : Mi.cutD xs (some (p : Int)) none = xs.drop p := by
  unfold Mi.cutD
  rw [HT.sIx_nat, HT.sIx_none, Nat.min_eq_left h, ← List.length_drop, List.take_length]
theorem ix_ok {f g : EM} {rho : List Slot} {mu mu1 mu2 : Mu} {v w z : Vl} (h1 : f rho mu = some (.ok v, mu1)) (h2 : g rho mu1 = some (.ok w, mu2)) (h3 : ixD mu2 v.d w.d = some z) : eIx f g rho mu = some (.ok z, mu2) := by
  unfold eIx M.bind
  rw [h1]
  simp only [h2, h3]
  rfl
theorem bin_ok {m : D → D → Option Vl} {f g : EM} {rho : List Slot} {mu mu1 mu2 : Mu} {v w z : Vl} (h1 : f rho mu = some (.ok v, mu1)) (h2 : g rho mu1 = some (.ok w, mu2)) (h3 : m v.d w.d = some z) : eBin m f g rho mu = some (.ok z, mu2) := by
  unfold eBin M.bind
  rw [h1]
  simp only [h2, h3]
  rfl
abbrev rhoD (mh most : Int) (g m : Nat) (x y : Slot) (ts : List Int) : List Slot := [.va .mug, .va (.int mh), .va (.int most), .va (.int g), .va (.int m), x, .va (.lst (ts.map .int)), y]
/-- one turn: the first knots that are too many alike are parted -/
theorem turn_ok {ts : List Int} {g m k : Nat} {r : List Nat} {ds : List D} {x y : Slot} {mh most : Int} (hl : ts.length ≤ 1000) (hg : g ≤ 4) (h : badI g ts = k :: r) : ∃ x' y', sSeq (sSet 5 (eIx (eLcR rng1 (aCons (eBin subI (eBin subI (eCall (m1 lenD) (aCons (eVar 6) aNil)) (eVar 3)) (eC (.int 1))) aNil) (fun d rho => some (rho.set 5 (.va d))) [5] (bOf (eBin eqM (eIx (eVar 6) (eVar 5)) (eIx (eVar 6) (eBin addA (eBin addA (eVar 5) (eVar 3)) (eC (.int 1)))))) (eVar 5)) (eC (.int 0))))
    (sSet 6 (eBin addA (eSl (eVar 6) oNone (oSome (eBin addA (eBin addA (eVar 5) (eVar 3)) (eC (.int 1))))) (eLc anyD (eSl (eVar 6) (oSome (eBin addA (eBin addA (eVar 5) (eVar 3)) (eC (.int 1)))) oNone) (fun d rho => some (rho.set 7 (.va d))) [7] bYes (eBin addA (eVar 7) (eC (.int 1))))))
    (rhoD mh most g m x y ts) (some ds) = some (.fl .nx (rhoD mh most g m x' y' (liftI (k + g + 1) ts)), some ds) := by
  have hk := bad_mem.mp (show k ∈ badI g ts by rw [h]; exact List.mem_cons_self)
  have b := bad_ok (ts := ts) (g := g) (ds := ds) (x := x) (y := .va (.int m)) (z := x) (w := y) (mh := mh) (most := most) (by omega) hg
  rw [h] at b
  have e1 : sSet 5 (eIx (eLcR rng1 (aCons (eBin subI (eBin subI (eCall (m1 lenD) (aCons (eVar 6) aNil)) (eVar 3)) (eC (.int 1))) aNil) (fun d rho => some (rho.set 5 (.va d))) [5] (bOf (eBin eqM (eIx (eVar 6) (eVar 5)) (eIx (eVar 6) (eBin addA (eBin addA (eVar 5) (eVar 3)) (eC (.int 1)))))) (eVar 5)) (eC (.int 0))) (rhoD mh most g m x y ts) (some ds) = some (.fl .nx (rhoD mh most g m (.va (.int k)) y ts), some ds) := by
    exact set_ok (ix_ok (w := .fz (.int 0)) (z := .fz (.int k)) b rfl (by simp [ixD, Vl.d, atI, ixN]))
  have p1 : ((k : Int) + g + 1) = ((k + g + 1 : Nat) : Int) := by omega
  have s1 : eSl (eVar 6) oNone (oSome (eBin addA (eBin addA (eVar 5) (eVar 3)) (eC (.int 1)))) (rhoD mh most g m (.va (.int k)) y ts) (some ds) = some (.ok (.fr ((ts.map D.int).take (k + g + 1))), some ds) := by
    have := cut_take (xs := ts.map D.int) (p := k + g + 1) (by rw [List.length_map]; omega)
    rw [← p1] at this
    simp [fnM, sSeq, sNil, sMug, sWith, eBin, eIx, eVar, eC, Mi.M.bind, Mi.M.pure, Mi.M.of, Mi.M.no, slotD, ixD, atI0, atI1, atI2, Vl.d, addA, Mi.orM, addI, subI, mulA, mulS, muSet, ixN, sIf, bOf, gtM, ltM, geM, leM, cmpI, blD, sSet, modA, modI, eCall, aCons, aNil, m1, intM, divA, divS, divI, sRet, aLen, eOwn, lenD, eSl, oNone, oSome, slD, Mi.intD, rhoD, this]
  have s2 : eSl (eVar 6) (oSome (eBin addA (eBin addA (eVar 5) (eVar 3)) (eC (.int 1)))) oNone (rhoD mh most g m (.va (.int k)) y ts) (some ds) = some (.ok (.fr ((ts.map D.int).drop (k + g + 1))), some ds) := by
    have := cut_drop (xs := ts.map D.int) (p := k + g + 1) (by rw [List.length_map]; omega)
    rw [← p1] at this
    simp [fnM, sSeq, sNil, sMug, sWith, eBin, eIx, eVar, eC, Mi.M.bind, Mi.M.pure, Mi.M.of, Mi.M.no, slotD, ixD, atI0, atI1, atI2, Vl.d, addA, Mi.orM, addI, subI, mulA, mulS, muSet, ixN, sIf, bOf, gtM, ltM, geM, leM, cmpI, blD, sSet, modA, modI, eCall, aCons, aNil, m1, intM, divA, divS, divI, sRet, aLen, eOwn, lenD, eSl, oNone, oSome, slD, Mi.intD, rhoD, this]
  have look := lcL_look (put := fun d rho => some (rho.set 7 (.va d))) (t := bYes) (f := eBin addA (eVar 7) (eC (.int 1))) (rho := wipeR (rhoD mh most g m (.va (.int k)) y ts) [7]) (mu := some ds) (p := fun _ => true) (g := fun d => match d with
      | .int t => .int (t + 1)
      | d => d) (ds := (ts.map D.int).drop (k + g + 1)) (acc := []) (fun d hd => by
      obtain ⟨t, ht, rfl⟩ := List.mem_map.mp (List.mem_of_mem_drop hd)
      refine ⟨_, rfl, rfl, fun _ => ⟨.fz (.int (t + 1)), ?_, rfl⟩⟩
      simp [fnM, sSeq, sNil, sMug, sWith, eBin, eIx, eVar, eC, Mi.M.bind, Mi.M.pure, Mi.M.of, Mi.M.no, slotD, ixD, atI0, atI1, atI2, Vl.d, addA, Mi.orM, addI, subI, mulA, mulS, muSet, ixN, sIf, bOf, gtM, ltM, geM, leM, cmpI, blD, sSet, modA, modI, eCall, aCons, aNil, m1, intM, divA, divS, divI, sRet, aLen, eOwn, lenD, wipeR, rhoD]) (by rw [List.length_drop, List.length_map]; simp; omega)
  have e2 : ((ts.map D.int).drop (k + g + 1)).filter (fun _ => true) = (ts.map D.int).drop (k + g + 1) := List.filter_eq_self.mpr fun _ _ => rfl
  rw [e2, List.nil_append, ← List.map_drop, List.map_map] at look
  have s3 := lc_ok (m := anyD) (vs := [7]) (t := bYes) (put := fun d rho => some (rho.set 7 (.va d))) s2 (ds := (ts.drop (k + g + 1)).map D.int) (by rw [← List.map_drop]; rfl) look
  refine ⟨.va (.int k), y, ?_⟩
  rw [seq_nx e1]
  have la : ((ts.map D.int).take (k + g + 1)).length + ((ts.drop (k + g + 1)).map ((fun d => match d with
      | .int t => D.int (t + 1)
      | d => d) ∘ D.int)).length ≤ 100000 := by
    rw [List.length_take, List.length_map, List.length_map, List.length_drop]
    omega
  have hz : addA (.lst ((ts.map D.int).take (k + g + 1))) (.lst ((ts.drop (k + g + 1)).map ((fun d => match d with
      | .int t => D.int (t + 1)
      | d => d) ∘ D.int))) = some (.fr ((liftI (k + g + 1) ts).map D.int)) := by
    unfold addA Mi.orM addI catL
    simp only [if_pos la]
    unfold liftI
    rw [List.map_append, List.map_take, List.map_map]
    rfl
  exact set_ok (bin_ok s1 s3 hz)
end Ev
end
section
set_option Elab.async false
set_option linter.all false
set_option maxRecDepth 100000
open PySem PySem.Spec PyProof.Rows L2 Mi Go
namespace Ev
theorem test_ok {m : D → D → Option Vl} {f g : EM} {rho : List Slot} {mu mu1 mu2 : Mu} {v w : Vl} {b : Bool} (h1 : f rho mu = some (.ok v, mu1)) (h2 : g rho mu1 = some (.ok w, mu2)) (h3 : m v.d w.d = some (.fz (.bl b))) : bOf (eBin m f g) rho mu = some (.ok b, mu2) := by
  have e := bin_ok h1 h2 h3
  unfold bOf M.bind
  rw [e]
  rfl
/-- the loop ends, the knots are in order and nowhere too many alike -/
theorem loop_ok {fuel g m n : Nat} {top : Int} {ts : List Int} {ds : List D} {x y : Slot} {mh most : Int} (hn : n ≤ 1000) (hg : g ≤ 4) (hf : n < fuel) (K : KI g n 0 top ts) : ∃ ts' x' y' k0,
    whileN (bOf (eBin neM (eLcR rng1 (aCons (eBin subI (eBin subI (eCall (m1 lenD) (aCons (eVar 6) aNil)) (eVar 3)) (eC (.int 1))) aNil) (fun d rho => some (rho.set 5 (.va d))) [5] (bOf (eBin eqM (eIx (eVar 6) (eVar 5)) (eIx (eVar 6) (eBin addA (eBin addA (eVar 5) (eVar 3)) (eC (.int 1)))))) (eVar 5)) (eCall mLst aNil)))
      (sSeq (sSet 5 (eIx (eLcR rng1 (aCons (eBin subI (eBin subI (eCall (m1 lenD) (aCons (eVar 6) aNil)) (eVar 3)) (eC (.int 1))) aNil) (fun d rho => some (rho.set 5 (.va d))) [5] (bOf (eBin eqM (eIx (eVar 6) (eVar 5)) (eIx (eVar 6) (eBin addA (eBin addA (eVar 5) (eVar 3)) (eC (.int 1)))))) (eVar 5)) (eC (.int 0))))
        (sSet 6 (eBin addA (eSl (eVar 6) oNone (oSome (eBin addA (eBin addA (eVar 5) (eVar 3)) (eC (.int 1))))) (eLc anyD (eSl (eVar 6) (oSome (eBin addA (eBin addA (eVar 5) (eVar 3)) (eC (.int 1)))) oNone) (fun d rho => some (rho.set 7 (.va d))) [7] bYes (eBin addA (eVar 7) (eC (.int 1))))))) fuel
      (rhoD mh most g m x y ts) (some ds) = some (.fl .nx (rhoD mh most g m x' y' ts'), some ds) ∧ KI g n k0 top ts' ∧ ∀ j, j + g + 1 < n → ts'[j]! < ts'[j + g + 1]! := by
  obtain ⟨rho', mu', e, rfl, ts', x', y', k0, rfl, K', hgap⟩ := while_ok
    (I := fun rho mu k => mu = some ds ∧ ∃ ts x y k0, rho = rhoD mh most g m x y ts ∧ KI g n k0 top ts ∧ k = n - k0)
    (Out := fun rho mu => mu = some ds ∧ ∃ ts x y k0, rho = rhoD mh most g m x y ts ∧ KI g n k0 top ts ∧ ∀ j, j + g + 1 < n → ts[j]! < ts[j + g + 1]!)
    (fun k rho mu ⟨h1, ts, x, y, k0, h2, K, hk⟩ => by
      subst h1 h2 hk
      have hl := K.len
      have b := bad_ok (ts := ts) (g := g) (ds := ds) (x := x) (y := .va (.int m)) (z := x) (w := y) (mh := mh) (most := most) (by omega) hg
      have nl : eCall mLst aNil (rhoD mh most g m x y ts) (some ds) = some (.ok (.fr []), some ds) := rfl
      cases hb : badI g ts with
      | nil =>
        left
        rw [hb] at b
        exact ⟨test_ok (b := false) b nl (ne_nil []), rfl, ts, x, y, k0, rfl, K, ki_done K hb⟩
      | cons k r =>
        right
        have hne := ne_nil ((k :: r).map fun k : Nat => (k : Int))
        rw [hb, show ((k :: r).map fun k : Nat => D.int (k : Int)) = ((k :: r).map fun k : Nat => (k : Int)).map D.int by rw [List.map_map]; rfl] at b
        obtain ⟨hk0, hkn, K2⟩ := ki_step K hb
        obtain ⟨x', y', e⟩ := turn_ok (m := m) (ds := ds) (x := x) (y := y) (mh := mh) (most := most) (by omega) hg hb
        exact ⟨test_ok (b := true) b nl hne, _, _, n - (k + 1), e, by omega, rfl, _, x', y', k + 1, rfl, K2, rfl⟩) fuel n _ (some ds) hf ⟨rfl, ts, x, y, 0, rfl, K, by omega⟩
  exact ⟨ts', x', y', k0, e, K', hgap⟩
end Ev
end
section
set_option Elab.async false
set_option linter.all false
set_option maxRecDepth 100000
open PySem PySem.Spec PyProof.Rows L2 Mi Go
namespace Ev
theorem ki_of {g n : Nat} {top : Int} {ts : List Int} (hl : ts.length = n) (pw : ts.Pairwise (· ≤ ·)) (low : ∀ t ∈ ts, 0 ≤ t ∧ t ≤ top) : KI g n 0 top ts where
  len := hl
  srt := fun i j hij hj => by
    by_cases e : i = j
    · subst e
      exact Int.le_refl _
    · rw [getElem!_pos ts i (by omega), getElem!_pos ts j (by omega)]
      exact List.pairwise_iff_getElem.mp pw i j (by omega) (by omega) (by omega)
  low := fun i hi => by
    rw [getElem!_pos ts i (by omega)]
    have := low _ (List.getElem_mem (by omega : i < ts.length))
    omega
  gap := fun j hj => absurd hj (Nat.not_lt_zero _)
  k0n := Nat.zero_le _
/-- the ends as alike as can be -/
def clampI (g m : Nat) (ts : List Int) : List Int := List.replicate (g + 1) ts[0]! ++ (ts.take m).drop (g + 1) ++ List.replicate (g + 1) ts[ts.length - 1]!
theorem clamp_len {g m : Nat} {ts : List Int} (hl : ts.length = m + g + 1) (hg : g < m) : (clampI g m ts).length = m + g + 1 := by
  unfold clampI
  simp only [List.length_append, List.length_replicate, List.length_drop, List.length_take]
  omega
theorem clamp_pw {g m : Nat} {ts : List Int} (pw : ts.Pairwise (· ≤ ·)) (h0 : 0 < ts.length) : (clampI g m ts).Pairwise (· ≤ ·) ∧ ∀ t ∈ clampI g m ts, t ∈ ts := by
  have first : ∀ t ∈ ts, ts[0]! ≤ t := fun t ht => by
    obtain ⟨i, hi, rfl⟩ := List.mem_iff_getElem.mp ht
    rw [getElem!_pos ts 0 h0]
    by_cases e : i = 0
    · subst e
      exact Int.le_refl _
    · exact List.pairwise_iff_getElem.mp pw 0 i h0 hi (by omega)
  have last : ∀ t ∈ ts, t ≤ ts[ts.length - 1]! := fun t ht => by
    obtain ⟨i, hi, rfl⟩ := List.mem_iff_getElem.mp ht
    rw [getElem!_pos ts (ts.length - 1) (by omega)]
    by_cases e : i = ts.length - 1
    · subst e
      exact Int.le_refl _
    · exact List.pairwise_iff_getElem.mp pw i (ts.length - 1) hi (by omega) (by omega)
  have m0 : ts[0]! ∈ ts := by
    rw [getElem!_pos ts 0 h0]
    exact List.getElem_mem _
  have m1 : ts[ts.length - 1]! ∈ ts := by
    rw [getElem!_pos ts (ts.length - 1) (by omega)]
    exact List.getElem_mem _
  have mid : ∀ t ∈ (ts.take m).drop (g + 1), t ∈ ts := fun t ht => List.mem_of_mem_take (List.mem_of_mem_drop ht)
  unfold clampI
  constructor
  · rw [List.pairwise_append, List.pairwise_append]
    refine ⟨⟨List.pairwise_replicate.mpr (.inr (Int.le_refl _)), (pw.sublist (List.take_sublist ..)).sublist (List.drop_sublist ..), fun a ha b hb => ?_⟩, List.pairwise_replicate.mpr (.inr (Int.le_refl _)), fun a ha b hb => ?_⟩
    · rw [List.eq_of_mem_replicate ha]
      exact first b (mid b hb)
    · rw [List.eq_of_mem_replicate hb]
      rcases List.mem_append.mp ha with z | z
      · rw [List.eq_of_mem_replicate z]
        exact last _ m0
      · exact last a (mid a z)
  · intro t ht
    rcases List.mem_append.mp ht with z | z
    · rcases List.mem_append.mp z with y | y
      · rw [List.eq_of_mem_replicate y]
        exact m0
      · exact mid t y
    · rw [List.eq_of_mem_replicate z]
      exact m1
theorem rep_one (k : Nat) (t : Int) (hk : k ≤ 1000) : mulA (.lst [.int t]) (.int (k : Int)) = some (.fr ((List.replicate k t).map D.int)) := by
  unfold mulA Mi.orM mulS mulI repL
  have h1 : (-1000 ≤ (k : Int) ∧ (k : Int) ≤ 1000 ∧ [D.int t].length * (k : Int).toNat ≤ 100000) := ⟨by omega, by omega, by simp; omega⟩
  simp only [if_pos h1]
  congr 2
  rw [Int.toNat_natCast]
  induction k with
  | zero => rfl
  | succ k ih =>
    rw [List.replicate_succ, List.flatten_cons, List.replicate_succ, List.map_cons, ih (by omega) ⟨by omega, by omega, by simp; omega⟩]
    rfl
theorem cat_ints {a b : List Int} (h : a.length + b.length ≤ 100000) : addA (.lst (a.map D.int)) (.lst (b.map D.int)) = some (.fr ((a ++ b).map D.int)) := by
  unfold addA Mi.orM addI catL
  simp only [if_pos (show (a.map D.int).length + (b.map D.int).length ≤ 100000 by rw [List.length_map, List.length_map]; exact h)]
  rw [List.map_append]
end Ev
end
section
set_option Elab.async false
set_option linter.all false
set_option maxRecDepth 100000
open PySem PySem.Spec PyProof.Rows L2 Mi Go
namespace Ev
theorem get_last {ts : List Int} (h : 0 < ts.length) : atI (ts.map D.int) (-1) = some (.int ts[ts.length - 1]!) := by
  have h1 : ixN (ts.map D.int).length (-1) = some (ts.length - 1) := by
    unfold ixN
    rw [if_neg (by decide), List.length_map, if_pos (by omega)]
    congr 1
    omega
  unfold atI
  rw [h1]
  show (ts.map D.int)[ts.length - 1]? = _
  rw [List.getElem?_map, List.getElem?_eq_getElem (by omega), getElem!_pos ts (ts.length - 1) (by omega)]
  rfl
theorem cut_mid {ts : List Int} {a b : Nat} (ha : a ≤ ts.length) (hb : b ≤ ts.length) : Mi.cutD (ts.map D.int) (some (a : Int)) (some (b : Int)) = ((ts.take b).drop a).map D.int := by
  unfold Mi.cutD
  rw [HT.sIx_nat, HT.sIx_nat, List.length_map, Nat.min_eq_left ha, Nat.min_eq_left hb, List.drop_take, List.map_take, List.map_drop]
theorem one_lst {f : EM} {rho : List Slot} {mu mu' : Mu} {v : Vl} (h : f rho mu = some (.ok v, mu')) : eCall mLst (aCons f aNil) rho mu = some (.ok (.fr [v.d]), mu') := bi_ok (args1 h) (by simp [mLst])
theorem clamp_ok {ts : List Int} {g m : Nat} {ds : List D} {x y : Slot} {mh most : Int} (hl : ts.length = m + g + 1) (hm : g < m) (hg : g ≤ 4) (hn : m ≤ 900) :
    sSet 6 (eBin addA (eBin addA (eBin mulA (eCall mLst (aCons (eIx (eVar 6) (eC (.int 0))) aNil)) (eBin addA (eVar 3) (eC (.int 1)))) (eSl (eVar 6) (oSome (eBin addA (eVar 3) (eC (.int 1)))) (oSome (eVar 4)))) (eBin mulA (eCall mLst (aCons (eIx (eVar 6) (eUn negI (eC (.int 1)))) aNil)) (eBin addA (eVar 3) (eC (.int 1)))))
      (rhoD mh most g m x y ts) (some ds) = some (.fl .nx (rhoD mh most g m x y (clampI g m ts)), some ds) := by
  have g1 : eBin addA (eVar 3) (eC (.int 1)) (rhoD mh most g m x y ts) (some ds) = some (.ok (.fz (.int ((g + 1 : Nat) : Int))), some ds) := rfl
  have i0 : eIx (eVar 6) (eC (.int 0)) (rhoD mh most g m x y ts) (some ds) = some (.ok (.fz (.int ts[0]!)), some ds) := by
    refine ix_ok (v := .fz (.lst (ts.map .int))) (w := .fz (.int 0)) rfl rfl ?_
    show (atI (ts.map D.int) ((0 : Nat) : Int)).map Vl.fz = _
    rw [get_int (by omega)]
    rfl
  have i1 : eIx (eVar 6) (eUn negI (eC (.int 1))) (rhoD mh most g m x y ts) (some ds) = some (.ok (.fz (.int ts[ts.length - 1]!)), some ds) := by
    refine ix_ok (v := .fz (.lst (ts.map .int))) (w := .fz (.int (-1))) rfl rfl ?_
    show (atI (ts.map D.int) (-1)).map Vl.fz = _
    rw [get_last (by omega)]
    rfl
  have sl : eSl (eVar 6) (oSome (eBin addA (eVar 3) (eC (.int 1)))) (oSome (eVar 4)) (rhoD mh most g m x y ts) (some ds) = some (.ok (.fr (((ts.take m).drop (g + 1)).map D.int)), some ds) := by
    have c := cut_mid (ts := ts) (a := g + 1) (b := m) (by omega) (by omega)
    rw [Int.natCast_add, Int.natCast_one] at c
    simp [fnM, sSeq, sNil, sMug, sWith, eBin, eIx, eVar, eC, Mi.M.bind, Mi.M.pure, Mi.M.of, Mi.M.no, slotD, ixD, atI0, atI1, atI2, Vl.d, addA, Mi.orM, addI, subI, mulA, mulS, muSet, ixN, sIf, bOf, gtM, ltM, geM, leM, cmpI, blD, sSet, modA, modI, eCall, aCons, aNil, m1, intM, divA, divS, divI, sRet, aLen, eOwn, lenD, eSl, oNone, oSome, slD, Mi.intD, rhoD, c]
  have r0 := bin_ok (one_lst i0) g1 (rep_one (g + 1) ts[0]! (by omega))
  have r1 := bin_ok (one_lst i1) g1 (rep_one (g + 1) ts[ts.length - 1]! (by omega))
  have c1 := bin_ok r0 sl (cat_ints (by rw [List.length_replicate, List.length_drop, List.length_take]; omega))
  have c2 := bin_ok c1 r1 (cat_ints (by rw [List.length_append, List.length_replicate, List.length_replicate, List.length_drop, List.length_take]; omega))
  exact set_ok c2
theorem fnM_of {n : Nat} {body : SM} {ds : List D} {mu mu' : Mu} {rho0 rho' : List Slot} {v : Vl} (h0 : ds.map Slot.va ++ List.replicate (n - ds.length) Slot.no = rho0) (h : body rho0 mu = some (.fl (.rt v) rho', mu')) : fnM n body ds mu = some (.ok v, mu') := by
  subst h0
  rw [fnM_seq, h]
/-- a drawn frame: degree and knots -/
structure Drawn (mh : Nat) (top : Int) (g : Nat) (ts : List Int) : Prop where
  g4 : g ≤ 4
  len : g + 2 ≤ ts.length ∧ ts.length ≤ mh + g + 1
  srt : ∀ i j, i ≤ j → j < ts.length → ts[i]! ≤ ts[j]!
  low : ∀ i, i < ts.length → 0 ≤ ts[i]! ∧ ts[i]! ≤ top + ts.length
  gap : ∀ j, j + g + 1 < ts.length → ts[j]! < ts[j + g + 1]!
theorem draft_ok {fuel : Nat} {ds : List D} {mh : Nat} {most : Int} (hm : MugL ds) (h1 : 0 < mh) (h2 : mh ≤ 900) (h3 : 0 ≤ most) (h4 : most < 10000000) (hf : 1000 ≤ fuel) :
    ∃ (g : Nat) (ts : List Int) (ds' : List D), m__law_draft fuel [.mug, .int mh, .int most] (some ds) = some (.ok (.fz (.lst [.int g, .tup (ts.map .int)])), some ds') ∧ MugL ds' ∧ Drawn mh most g ts := by
  obtain ⟨g, m, ds1, hg, lo1, up1, hm1, e1⟩ := draft1 (mh := mh) (most := most) hm (by omega) (by omega)
  obtain ⟨ns, ds2, nl, nb, hm2, e2⟩ := draft2 (mh := mh) (g := g) (m := m) hm1 h3 h4 hg (by omega)
  obtain ⟨r, ds3, e3, hm3, r0, r3⟩ := sip_ok (top := 3) hm2 (by decide) (by decide)
  have s1 : sPut (putS [3, 4]) (eCall mTup (aCons (eOwn m__law_pick (aLen 2 (aCons (eVar 0) (aCons (eCall mLst (aCons (eC (.int 0)) (aCons (eC (.int 1)) (aCons (eC (.int 1)) (aCons (eC (.int 2)) (aCons (eC (.int 2)) (aCons (eC (.int 3)) (aCons (eC (.int 4)) aNil)))))))) aNil)))) (aCons (eBin addA (eC (.int 1)) (eOwn m__law_sip (aLen 2 (aCons (eVar 0) (aCons (eVar 1) aNil))))) aNil))) (dr0 mh most .no .no .no .no) (some ds) = some (.fl .nx (dr0 mh most (.va (.int g)) (.va (.int m)) .no .no), some ds1) := put_ok e1 rfl
  have s2 : sSet 6 (eCall (m1 sortM) (aCons (eLcR rng1 (aCons (eBin addA (eBin addA (eVar 4) (eVar 3)) (eC (.int 1))) aNil) (fun d rho => some (rho.set 5 (.va d))) [5] bYes (eOwn m__law_sip (aLen 2 (aCons (eVar 0) (aCons (eBin addA (eVar 2) (eC (.int 1))) aNil))))) aNil)) (dr0 mh most (.va (.int g)) (.va (.int m)) .no .no) (some ds1) = some (.fl .nx (rhoD mh most g m .no .no (sortI ns)), some ds2) := set_ok (v := .fr ((sortI ns).map .int)) (bi_ok (args1 e2) (sort_ok ns))
  have pl : (sortI ns).length = m + g + 1 := (sortI_perm ns).length_eq.trans nl
  have pb : ∀ t ∈ sortI ns, 0 ≤ t ∧ t ≤ most := fun t ht => nb t ((sortI_perm ns).mem_iff.mp ht)
  obtain ⟨ts, ht, tl, tp, tb⟩ : ∃ ts, sIf (bAnd (bOf (eBin eqM (eOwn m__law_sip (aLen 2 (aCons (eVar 0) (aCons (eC (.int 3)) aNil)))) (eC (.int 0)))) (bOf (eBin gtM (eVar 4) (eVar 3)))) (sSet 6 (eBin addA (eBin addA (eBin mulA (eCall mLst (aCons (eIx (eVar 6) (eC (.int 0))) aNil)) (eBin addA (eVar 3) (eC (.int 1)))) (eSl (eVar 6) (oSome (eBin addA (eVar 3) (eC (.int 1)))) (oSome (eVar 4)))) (eBin mulA (eCall mLst (aCons (eIx (eVar 6) (eUn negI (eC (.int 1)))) aNil)) (eBin addA (eVar 3) (eC (.int 1)))))) sNil (rhoD mh most g m .no .no (sortI ns)) (some ds2) = some (.fl .nx (rhoD mh most g m .no .no ts), some ds3) ∧ ts.length = m + g + 1 ∧ ts.Pairwise (· ≤ ·) ∧ ∀ t ∈ ts, 0 ≤ t ∧ t ≤ most := by
    have eo : eOwn m__law_sip (aLen 2 (aCons (eVar 0) (aCons (eC (.int 3)) aNil))) (rhoD mh most g m .no .no (sortI ns)) (some ds2) = some (.ok (.fz (.int r)), some ds3) := by
      simp [fnM, sSeq, sNil, sMug, sWith, eBin, eIx, eVar, eC, Mi.M.bind, Mi.M.pure, Mi.M.of, Mi.M.no, slotD, ixD, atI0, atI1, atI2, Vl.d, addA, Mi.orM, addI, subI, mulA, mulS, muSet, ixN, sIf, bOf, gtM, ltM, geM, leM, cmpI, blD, sSet, modA, modI, eCall, aCons, aNil, m1, intM, divA, divS, divI, sRet, aLen, eOwn, lenD, rhoD, e3]
    have t1 := test_ok (m := eqM) (g := eC (.int 0)) (w := .fz (.int 0)) (mu2 := some ds3) eo rfl (eq_int r 0)
    by_cases hr : r = 0
    · by_cases hgm : g < m
      · have t2 : bOf (eBin gtM (eVar 4) (eVar 3)) (rhoD mh most g m .no .no (sortI ns)) (some ds3) = some (.ok true, some ds3) := by
          simp [fnM, sSeq, sNil, sMug, sWith, eBin, eIx, eVar, eC, Mi.M.bind, Mi.M.pure, Mi.M.of, Mi.M.no, slotD, ixD, atI0, atI1, atI2, Vl.d, addA, Mi.orM, addI, subI, mulA, mulS, muSet, ixN, sIf, bOf, gtM, ltM, geM, leM, cmpI, blD, sSet, modA, modI, eCall, aCons, aNil, m1, intM, divA, divS, divI, sRet, aLen, eOwn, lenD, rhoD, hgm]
        have c := clamp_ok (ts := sortI ns) (g := g) (m := m) (ds := ds3) (x := .no) (y := .no) (mh := mh) (most := most) pl hgm hg (by omega)
        obtain ⟨q1, q2⟩ := clamp_pw (g := g) (m := m) (sortI_sorted ns) (by omega)
        refine ⟨clampI g m (sortI ns), ?_, clamp_len pl hgm, q1, fun t ht => pb t (q2 t ht)⟩
        rw [decide_eq_true hr] at t1
        unfold sIf sWith bAnd M.bind
        rw [t1]
        simp only [if_true]
        rw [t2]
        simp only [if_true]
        exact c
      · have t2 : bOf (eBin gtM (eVar 4) (eVar 3)) (rhoD mh most g m .no .no (sortI ns)) (some ds3) = some (.ok false, some ds3) := by
          simp [fnM, sSeq, sNil, sMug, sWith, eBin, eIx, eVar, eC, Mi.M.bind, Mi.M.pure, Mi.M.of, Mi.M.no, slotD, ixD, atI0, atI1, atI2, Vl.d, addA, Mi.orM, addI, subI, mulA, mulS, muSet, ixN, sIf, bOf, gtM, ltM, geM, leM, cmpI, blD, sSet, modA, modI, eCall, aCons, aNil, m1, intM, divA, divS, divI, sRet, aLen, eOwn, lenD, rhoD, hgm]
        refine ⟨sortI ns, ?_, pl, sortI_sorted ns, pb⟩
        rw [decide_eq_true hr] at t1
        unfold sIf sWith bAnd M.bind
        rw [t1]
        simp only [if_true]
        rw [t2]
        rfl
    · refine ⟨sortI ns, ?_, pl, sortI_sorted ns, pb⟩
      rw [decide_eq_false hr] at t1
      unfold sIf sWith bAnd M.bind
      rw [t1]
      rfl
  obtain ⟨ts', x', y', k0, ew', K', gap⟩ := loop_ok (fuel := fuel) (m := m) (ds := ds3) (x := .no) (y := .no) (mh := mh) (most := most) (n := m + g + 1) (by omega) hg (by omega) (ki_of tl tp tb)
  refine ⟨g, ts', ds3, ?_, hm3, hg, ⟨by have := K'.len; omega, by have := K'.len; omega⟩, fun i j h h' => K'.srt i j h (by have := K'.len; omega), fun i h => ?_, fun j h => gap j (by have := K'.len; omega)⟩
  · unfold m__law_draft b__law_draft
    refine fnM_of (rho0 := dr0 mh most .no .no .no .no) (rho' := rhoD mh most g m x' y' ts') rfl ?_
    rw [seq_nx s1, seq_nx s2, seq_nx ht, seq_nx ew']
    simp [fnM, sSeq, sNil, sMug, sWith, eBin, eIx, eVar, eC, Mi.M.bind, Mi.M.pure, Mi.M.of, Mi.M.no, slotD, ixD, atI0, atI1, atI2, Vl.d, addA, Mi.orM, addI, subI, mulA, mulS, muSet, ixN, sIf, bOf, gtM, ltM, geM, leM, cmpI, blD, sSet, modA, modI, eCall, aCons, aNil, m1, intM, divA, divS, divI, sRet, aLen, eOwn, lenD, rhoD, mLst, tupM]
  · have := K'.low i (by have := K'.len; omega)
    have := K'.k0n
    have := K'.len
    omega
end Ev
end
section
set_option Elab.async false
set_option linter.all false
set_option maxRecDepth 100000
open PySem PySem.Spec PyProof.Rows L2 Mi Go
namespace Ev
theorem sm_divInt {n : Nat} {a b : Int} (ha : a.natAbs < 2 ^ n) (hb : b.natAbs < 2 ^ n) (h0 : 0 < b) : Sm n (Rat.divInt a b) := by
  have hn := Rat.num_divInt a b
  have hd := Rat.den_divInt a b
  rw [if_neg (by omega)] at hd
  rw [Int.sign_eq_one_of_pos h0, Int.one_mul] at hn
  constructor
  · rw [hn]
    have : (a / (b.gcd a : Int)).natAbs ≤ a.natAbs := Int.natAbs_ediv_le_natAbs ..
    omega
  · rw [hd]
    exact Nat.lt_of_le_of_lt (Nat.div_le_self ..) hb
theorem sm_mul {m n : Nat} {r s : Rat} (hr : Sm m r) (hs : Sm n s) : Sm (m + n) (r * s) := by
  rw [← divInt_mul]
  refine sm_divInt ?_ ?_ (by exact_mod_cast Nat.mul_pos r.den_pos s.den_pos)
  · rw [Int.natAbs_mul]
    exact mul_lt hr.num hs.num
  · rw [Int.natAbs_mul, Int.natAbs_natCast, Int.natAbs_natCast]
    exact mul_lt hr.den hs.den
theorem sm_add {n : Nat} {r s : Rat} (hr : Sm n r) (hs : Sm n s) : Sm (n + n + 1) (r + s) := by
  rw [← divInt_add]
  have a := mul_lt hr.num hs.den
  have b := mul_lt hs.num hr.den
  have c := mul_lt hr.den hs.den
  have e : 2 ^ (n + n + 1) = 2 ^ (n + n) + 2 ^ (n + n) := by rw [Nat.pow_succ]; omega
  refine sm_divInt ?_ ?_ (by exact_mod_cast Nat.mul_pos r.den_pos s.den_pos)
  · have h1 : (r.num * s.den).natAbs = r.num.natAbs * s.den := by rw [Int.natAbs_mul, Int.natAbs_natCast]
    have h2 : (s.num * r.den).natAbs = s.num.natAbs * r.den := by rw [Int.natAbs_mul, Int.natAbs_natCast]
    have := Int.natAbs_add_le (r.num * s.den) (s.num * r.den)
    omega
  · rw [Int.natAbs_mul, Int.natAbs_natCast, Int.natAbs_natCast]
    omega
theorem Sm.up {m n : Nat} {r : Rat} (h : Sm m r) (hmn : m ≤ n) : Sm n r := ⟨Nat.lt_of_lt_of_le h.num (pw_le hmn), Nat.lt_of_lt_of_le h.den (pw_le hmn)⟩
theorem sm_zero : Sm 1 (0 : Rat) := ⟨by decide, by decide⟩
theorem sm_one : Sm 1 (1 : Rat) := ⟨by decide, by decide⟩
/-- whether p / q lies in the piece of the hill k of degree 0 -/
def inB (ts : List Int) (p q : Int) (k : Nat) : Bool := if p = ts[ts.length - 1]! * q then decide (ts[k]! * q < p) && decide (p ≤ ts[k + 1]! * q) else decide (ts[k]! * q ≤ p) && decide (p < ts[k + 1]! * q)
/-- one of the two factors -/
def facR (d t w : Int) : Rat := if 0 < d then Rat.divInt t (d * w) else 0
/-- a hill's value by the rule of two products, at p / q (q above 0) -/
def hill (ts : List Int) (p q : Int) : Nat → Nat → Rat
  | 0, k => if inB ts p q k = true then 1 else 0
  | g + 1, k => facR (ts[k + g + 1]! - ts[k]!) (p - ts[k]! * q) q * hill ts p q g k + facR (ts[k + g + 2]! - ts[k + 1]!) (ts[k + g + 2]! * q - p) q * hill ts p q g (k + 1)
/-- how great it may be written -/
def hb : Nat → Nat
  | 0 => 1
  | g + 1 => (60 + hb g) + (60 + hb g) + 1
theorem sm_fac {d t w : Int} (hd : d.natAbs < 2 ^ 29) (hw : 0 < w) (hw2 : w < 2 ^ 28) (ht : t.natAbs < 2 ^ 60) : Sm 60 (facR d t w) := by
  unfold facR
  by_cases h : 0 < d
  · rw [if_pos h]
    refine sm_divInt ht ?_ (Int.mul_pos h hw)
    rw [Int.natAbs_mul]
    exact Nat.lt_of_lt_of_le (mul_lt hd (show w.natAbs < 2 ^ 28 by omega)) (pw_le (by decide))
  · rw [if_neg h]
    exact sm_zero.up (by decide)
theorem sm_hill {ts : List Int} {p q : Int} (hq : 0 < q) (hq2 : q < 2 ^ 28) (hp : p.natAbs < 2 ^ 58) (ht : ∀ i : Nat, (ts[i]! : Int).natAbs < 2 ^ 28) : ∀ g k : Nat, Sm (hb g) (hill ts p q g k)
  | 0, k => by
    unfold hill
    by_cases h : inB ts p q k = true
    · rw [if_pos h]
      exact sm_one
    · rw [if_neg h]
      exact sm_zero
  | g + 1, k => by
    have i1 := sm_hill hq hq2 hp ht g k
    have i2 := sm_hill hq hq2 hp ht g (k + 1)
    have pq : ∀ i : Nat, ((ts[i]! : Int) * q).natAbs < 2 ^ 56 := fun i => by
      rw [Int.natAbs_mul]
      exact mul_lt (ht i) (show q.natAbs < 2 ^ 28 by omega)
    have t0 := ht k
    have t1 := ht (k + 1)
    have t2 := ht (k + g + 1)
    have t3 := ht (k + g + 2)
    have q0 := pq k
    have q3 := pq (k + g + 2)
    have f1 := sm_fac (d := ts[k + g + 1]! - ts[k]!) (t := p - ts[k]! * q) (w := q) (by omega) hq hq2 (by omega)
    have f2 := sm_fac (d := ts[k + g + 2]! - ts[k + 1]!) (t := ts[k + g + 2]! * q - p) (w := q) (by omega) hq hq2 (by omega)
    exact sm_add (sm_mul f1 i1) (sm_mul f2 i2)
end Ev
end
section
set_option Elab.async false
set_option linter.all false
set_option maxRecDepth 100000
open PySem PySem.Spec PyProof.Rows L2 Mi Go
namespace Ev
theorem seq_rt {f g : SM} {rho rho' : List Slot} {mu mu' : Mu} {v : Vl} (h : f rho mu = some (.fl (.rt v) rho', mu')) : sSeq f g rho mu = some (.fl (.rt v) rho', mu') := by
  unfold sSeq
  rw [h]
theorem if_t {t : BM} {f g : SM} {rho : List Slot} {mu mu1 : Mu} (h : t rho mu = some (.ok true, mu1)) : sIf t f g rho mu = f rho mu1 := by
  unfold sIf sWith
  rw [h]
  rfl
theorem if_f {t : BM} {f g : SM} {rho : List Slot} {mu mu1 : Mu} (h : t rho mu = some (.ok false, mu1)) : sIf t f g rho mu = g rho mu1 := by
  unfold sIf sWith
  rw [h]
  rfl
abbrev rb (ts : List Int) (k g p q : Int) (a b c d e f h : Slot) : List Slot := [.va (.tup (ts.map .int)), .va (.int k), .va (.int g), .va (.tup [.int p, .int q]), a, b, c, d, e, f, h]
theorem bump0 {fuel : Nat} {ts : List Int} {p q : Int} {k : Nat} {rec : FM} {mu : Mu} (hq : 0 < q) (hq2 : q < 2 ^ 28) (hk : k + 1 < ts.length) : fnM 11 (b__law_bump fuel rec) [.tup (ts.map .int), .int k, .int 0, .tup [.int p, .int q]] mu = some (.ok (.fz (frD (hill ts p q 0 k))), mu) := by
  have e0 := get_int (ts := ts) (k := k) (by omega)
  have e1 : atI (ts.map D.int) ((k : Int) + 1) = some (.int ts[k + 1]!) := by
    rw [show ((k : Int) + 1) = ((k + 1 : Nat) : Int) by omega]
    exact get_int hk
  have el := get_last (ts := ts) (by omega)
  have hm : q.natAbs < 18446744073709551616 := by omega
  unfold b__law_bump
  refine fnM_of (rho0 := rb ts k 0 p q .no .no .no .no .no .no .no) (rho' := rb ts k 0 p q (.va (.int (ts[k]! * q))) (.va (.int (ts[k + 1]! * q))) (.va (.bl (inB ts p q k))) .no .no .no .no) rfl ?_
  refine seq_rt ?_
  rw [if_t (test_ok (m := eqM) (v := .fz (.int 0)) (w := .fz (.int 0)) rfl rfl (eq_int 0 0))]
  have p1 : sPar 4 5 (aCons (eBin mulA (eIx (eVar 0) (eVar 1)) (eIx (eVar 3) (eC (.int 1)))) (aCons (eBin mulA (eIx (eVar 0) (eBin addA (eVar 1) (eC (.int 1)))) (eIx (eVar 3) (eC (.int 1)))) aNil)) (rb ts k 0 p q .no .no .no .no .no .no .no) mu = some (.fl .nx (rb ts k 0 p q (.va (.int (ts[k]! * q))) (.va (.int (ts[k + 1]! * q))) .no .no .no .no .no), mu) := by
    simp [fnM, sSeq, sNil, sMug, sWith, eBin, eIx, eVar, eC, Mi.M.bind, Mi.M.pure, Mi.M.of, Mi.M.no, slotD, ixD, atI0, atI1, atI2, Vl.d, addA, Mi.orM, addI, subI, mulA, mulS, muSet, ixN, sIf, bOf, gtM, ltM, geM, leM, cmpI, blD, sSet, modA, modI, eCall, aCons, aNil, m1, intM, divA, divS, divI, sRet, aLen, eOwn, lenD, sPar, rb, e0, e1, atI21, hm]
  rw [seq_nx p1]
  have t1 : bOf (eBin eqM (eIx (eVar 3) (eC (.int 0))) (eBin mulA (eIx (eVar 0) (eUn negI (eC (.int 1)))) (eIx (eVar 3) (eC (.int 1))))) (rb ts k 0 p q (.va (.int (ts[k]! * q))) (.va (.int (ts[k + 1]! * q))) .no .no .no .no .no) mu = some (.ok (decide (p = ts[ts.length - 1]! * q)), mu) := by
    refine test_ok (v := .fz (.int p)) (w := .fz (.int (ts[ts.length - 1]! * q))) (mu1 := mu) (by simp [fnM, sSeq, sNil, sMug, sWith, eBin, eIx, eVar, eC, Mi.M.bind, Mi.M.pure, Mi.M.of, Mi.M.no, slotD, ixD, atI0, atI1, atI2, Vl.d, addA, Mi.orM, addI, subI, mulA, mulS, muSet, ixN, sIf, bOf, gtM, ltM, geM, leM, cmpI, blD, sSet, modA, modI, eCall, aCons, aNil, m1, intM, divA, divS, divI, sRet, aLen, eOwn, lenD, rb, atI20]) ?_ (eq_int _ _)
    simp [fnM, sSeq, sNil, sMug, sWith, eBin, eIx, eVar, eC, Mi.M.bind, Mi.M.pure, Mi.M.of, Mi.M.no, slotD, ixD, atI0, atI1, atI2, Vl.d, addA, Mi.orM, addI, subI, mulA, mulS, muSet, ixN, sIf, bOf, gtM, ltM, geM, leM, cmpI, blD, sSet, modA, modI, eCall, aCons, aNil, m1, intM, divA, divS, divI, sRet, aLen, eOwn, lenD, rb, el, eUn, negI, atI21, hm]
  have s6 : sSet 6 (eIf (bOf (eBin eqM (eIx (eVar 3) (eC (.int 0))) (eBin mulA (eIx (eVar 0) (eUn negI (eC (.int 1)))) (eIx (eVar 3) (eC (.int 1)))))) (eChain ltM leM (eVar 4) (eIx (eVar 3) (eC (.int 0))) (eVar 5)) (eChain leM ltM (eVar 4) (eIx (eVar 3) (eC (.int 0))) (eVar 5))) (rb ts k 0 p q (.va (.int (ts[k]! * q))) (.va (.int (ts[k + 1]! * q))) .no .no .no .no .no) mu = some (.fl .nx (rb ts k 0 p q (.va (.int (ts[k]! * q))) (.va (.int (ts[k + 1]! * q))) (.va (.bl (inB ts p q k))) .no .no .no .no), mu) := by
    refine set_ok (v := .fz (.bl (inB ts p q k))) ?_
    unfold eIf M.bind
    rw [t1]
    unfold inB
    by_cases h : p = ts[ts.length - 1]! * q
    · rw [decide_eq_true h, if_pos h]
      generalize ts[k]! * q = A
      generalize ts[k + 1]! * q = B
      by_cases h2 : A < p <;> simp [fnM, sSeq, sNil, sMug, sWith, eBin, eIx, eVar, eC, Mi.M.bind, Mi.M.pure, Mi.M.of, Mi.M.no, slotD, ixD, atI0, atI1, atI2, Vl.d, addA, Mi.orM, addI, subI, mulA, mulS, muSet, ixN, sIf, bOf, gtM, ltM, geM, leM, cmpI, blD, sSet, modA, modI, eCall, aCons, aNil, m1, intM, divA, divS, divI, sRet, aLen, eOwn, lenD, eChain, rb, atI20, h2]
    · rw [decide_eq_false h, if_neg h]
      generalize ts[k]! * q = A
      generalize ts[k + 1]! * q = B
      by_cases h2 : A ≤ p <;> simp [fnM, sSeq, sNil, sMug, sWith, eBin, eIx, eVar, eC, Mi.M.bind, Mi.M.pure, Mi.M.of, Mi.M.no, slotD, ixD, atI0, atI1, atI2, Vl.d, addA, Mi.orM, addI, subI, mulA, mulS, muSet, ixN, sIf, bOf, gtM, ltM, geM, leM, cmpI, blD, sSet, modA, modI, eCall, aCons, aNil, m1, intM, divA, divS, divI, sRet, aLen, eOwn, lenD, eChain, rb, atI20, h2]
  rw [seq_nx s6]
  unfold hill
  by_cases h : inB ts p q k = true
  · rw [if_pos h]
    simp [fnM, sSeq, sNil, sMug, sWith, eBin, eIx, eVar, eC, Mi.M.bind, Mi.M.pure, Mi.M.of, Mi.M.no, slotD, ixD, atI0, atI1, atI2, Vl.d, addA, Mi.orM, addI, subI, mulA, mulS, muSet, ixN, sIf, bOf, gtM, ltM, geM, leM, cmpI, blD, sSet, modA, modI, eCall, aCons, aNil, m1, intM, divA, divS, divI, sRet, aLen, eOwn, lenD, eIf, bTru, truD, rb, h, mTup, frD]
  · rw [if_neg h]
    simp [fnM, sSeq, sNil, sMug, sWith, eBin, eIx, eVar, eC, Mi.M.bind, Mi.M.pure, Mi.M.of, Mi.M.no, slotD, ixD, atI0, atI1, atI2, Vl.d, addA, Mi.orM, addI, subI, mulA, mulS, muSet, ixN, sIf, bOf, gtM, ltM, geM, leM, cmpI, blD, sSet, modA, modI, eCall, aCons, aNil, m1, intM, divA, divS, divI, sRet, aLen, eOwn, lenD, eIf, bTru, truD, rb, h, mTup, frD]
end Ev
end
section
set_option Elab.async false
set_option linter.all false
set_option maxRecDepth 100000
set_option exponentiation.threshold 10000
open PySem PySem.Spec PyProof.Rows L2 Mi Go
namespace Ev
abbrev rc (bo : List D) (k g p q : Int) (c d e f : Slot) : List Slot := [.va (.tup bo), .va (.int k), .va (.int g), .va (.tup [.int p, .int q]), .no, .no, .no, c, d, e, f]
theorem own_ok {fm : FM} {n : Nat} {ag : AM} {rho : List Slot} {mu mu1 mu2 : Mu} {ds : List D} {v : Vl} (h : ag rho mu = some (.ok ds, mu1)) (hl : ds.length = n) (hf : fm ds mu1 = some (.ok v, mu2)) : eOwn fm (aLen n ag) rho mu = some (.ok v, mu2) := by
  unfold eOwn aLen M.bind
  rw [h]
  simp only [if_pos hl, M.pure, hf]
theorem args2 {f g : EM} {rho : List Slot} {mu mu1 mu2 : Mu} {v w : Vl} (h1 : f rho mu = some (.ok v, mu1)) (h2 : g rho mu1 = some (.ok w, mu2)) : aCons f (aCons g aNil) rho mu = some (.ok [v.d, w.d], mu2) := by
  unfold aCons M.bind
  rw [h1]
  simp only [h2]
  rfl
/-- the first product -/
theorem prod1 {fuel : Nat} {bo : List D} {k g p q T0 d : Int} {H : Rat} {rec : FM} {mu : Mu} {e f : Slot} (e0 : atI bo k = some (.int T0)) (hq : 0 < q) (hq2 : q < 2 ^ 28) (hp : p.natAbs < 2 ^ 58) (hT : T0.natAbs < 2 ^ 28) (hd : d.natAbs < 2 ^ 29) (hf : 2 ^ 8000 ≤ fuel) (hH : Sm 3900 H)
    (hr : rec [.tup bo, .int k, .int (g - 1), .tup [.int p, .int q]] mu = some (.ok (.fz (frD H)), mu)) :
    sIf (bOf (eBin gtM (eVar 8) (eC (.int 0)))) (sSet 7 (eOwn (m__law_mult fuel) (aLen 2 (aCons (eOwn (m__law_low fuel) (aLen 2 (aCons (eBin subI (eIx (eVar 3) (eC (.int 0))) (eBin mulA (eIx (eVar 0) (eVar 1)) (eIx (eVar 3) (eC (.int 1))))) (aCons (eBin mulA (eVar 8) (eIx (eVar 3) (eC (.int 1)))) aNil)))) (aCons (eOwn rec (aLen 4 (aCons (eVar 0) (aCons (eVar 1) (aCons (eBin subI (eVar 2) (eC (.int 1))) (aCons (eVar 3) aNil)))))) aNil))))) sNil
      (rc bo k g p q (.va (frD 0)) (.va (.int d)) e f) mu = some (.fl .nx (rc bo k g p q (.va (frD (facR d (p - T0 * q) q * H))) (.va (.int d)) e f), mu) := by
  have hm : q.natAbs < 18446744073709551616 := by omega
  by_cases h : 0 < d
  · have t : bOf (eBin gtM (eVar 8) (eC (.int 0))) (rc bo k g p q (.va (frD 0)) (.va (.int d)) e f) mu = some (.ok true, mu) := by simp [fnM, sSeq, sNil, sMug, sWith, eBin, eIx, eVar, eC, Mi.M.bind, Mi.M.pure, Mi.M.of, Mi.M.no, slotD, ixD, atI0, atI1, atI2, Vl.d, addA, Mi.orM, addI, subI, mulA, mulS, muSet, ixN, sIf, bOf, gtM, ltM, geM, leM, cmpI, blD, sSet, modA, modI, eCall, aCons, aNil, m1, intM, divA, divS, divI, sRet, aLen, eOwn, lenD, rc, h]
    rw [if_t t]
    have sf := sm_fac (d := d) (t := p - T0 * q) (w := q) hd hq hq2 (by
      have : (T0 * q).natAbs < 2 ^ 56 := by
        rw [Int.natAbs_mul]
        exact mul_lt hT (show q.natAbs < 2 ^ 28 by omega)
      omega)
    have ef : facR d (p - T0 * q) q = Rat.divInt (p - T0 * q) (d * q) := by
      unfold facR
      rw [if_pos h]
    have pos : 0 < d * q := Int.mul_pos h hq
    have sz : (d * q).natAbs < 2 ^ 57 := by
      rw [Int.natAbs_mul]
      exact Nat.lt_of_lt_of_le (mul_lt hd (show q.natAbs < 2 ^ 28 by omega)) (pw_le (by decide))
    have lo := low_ok (fuel := fuel) (p := p - T0 * q) (q := d * q) (mu := mu) (by omega) (by
      have : 2 ^ 57 ≤ 2 ^ 8000 := pw_le (by decide)
      omega) (Nat.lt_of_lt_of_le sz (pw_le (by decide)))
    rw [← ef] at lo
    have a1 : eBin subI (eIx (eVar 3) (eC (.int 0))) (eBin mulA (eIx (eVar 0) (eVar 1)) (eIx (eVar 3) (eC (.int 1)))) (rc bo k g p q (.va (frD 0)) (.va (.int d)) e f) mu = some (.ok (.fz (.int (p - T0 * q))), mu) := by simp [fnM, sSeq, sNil, sMug, sWith, eBin, eIx, eVar, eC, Mi.M.bind, Mi.M.pure, Mi.M.of, Mi.M.no, slotD, ixD, atI0, atI1, atI2, Vl.d, addA, Mi.orM, addI, subI, mulA, mulS, muSet, ixN, sIf, bOf, gtM, ltM, geM, leM, cmpI, blD, sSet, modA, modI, eCall, aCons, aNil, m1, intM, divA, divS, divI, sRet, aLen, eOwn, lenD, rc, e0, atI20, atI21, hm]
    have a2 : eBin mulA (eVar 8) (eIx (eVar 3) (eC (.int 1))) (rc bo k g p q (.va (frD 0)) (.va (.int d)) e f) mu = some (.ok (.fz (.int (d * q))), mu) := by simp [fnM, sSeq, sNil, sMug, sWith, eBin, eIx, eVar, eC, Mi.M.bind, Mi.M.pure, Mi.M.of, Mi.M.no, slotD, ixD, atI0, atI1, atI2, Vl.d, addA, Mi.orM, addI, subI, mulA, mulS, muSet, ixN, sIf, bOf, gtM, ltM, geM, leM, cmpI, blD, sSet, modA, modI, eCall, aCons, aNil, m1, intM, divA, divS, divI, sRet, aLen, eOwn, lenD, rc, atI21, hm]
    have a3 : aCons (eVar 0) (aCons (eVar 1) (aCons (eBin subI (eVar 2) (eC (.int 1))) (aCons (eVar 3) aNil))) (rc bo k g p q (.va (frD 0)) (.va (.int d)) e f) mu = some (.ok [.tup bo, .int k, .int (g - 1), .tup [.int p, .int q]], mu) := by simp [fnM, sSeq, sNil, sMug, sWith, eBin, eIx, eVar, eC, Mi.M.bind, Mi.M.pure, Mi.M.of, Mi.M.no, slotD, ixD, atI0, atI1, atI2, Vl.d, addA, Mi.orM, addI, subI, mulA, mulS, muSet, ixN, sIf, bOf, gtM, ltM, geM, leM, cmpI, blD, sSet, modA, modI, eCall, aCons, aNil, m1, intM, divA, divS, divI, sRet, aLen, eOwn, lenD, rc]
    exact set_ok (own_ok (args2 (own_ok (args2 a1 a2) rfl lo) (own_ok a3 rfl hr)) rfl (mult_ok (n := 3900) (sf.up (by decide)) hH (by decide) hf))
  · have t : bOf (eBin gtM (eVar 8) (eC (.int 0))) (rc bo k g p q (.va (frD 0)) (.va (.int d)) e f) mu = some (.ok false, mu) := by simp [fnM, sSeq, sNil, sMug, sWith, eBin, eIx, eVar, eC, Mi.M.bind, Mi.M.pure, Mi.M.of, Mi.M.no, slotD, ixD, atI0, atI1, atI2, Vl.d, addA, Mi.orM, addI, subI, mulA, mulS, muSet, ixN, sIf, bOf, gtM, ltM, geM, leM, cmpI, blD, sSet, modA, modI, eCall, aCons, aNil, m1, intM, divA, divS, divI, sRet, aLen, eOwn, lenD, rc, h]
    rw [if_f t]
    have ef : facR d (p - T0 * q) q = 0 := by
      unfold facR
      rw [if_neg h]
    rw [ef, Rat.zero_mul]
    rfl
end Ev
end
section
set_option Elab.async false
set_option linter.all false
set_option maxRecDepth 100000
set_option exponentiation.threshold 10000
open PySem PySem.Spec PyProof.Rows L2 Mi Go
namespace Ev
/-- the second product -/
theorem prod2 {fuel : Nat} {bo : List D} {k g p q T2 d : Int} {H R : Rat} {rec : FM} {mu : Mu} {e : Slot} (e2 : atI bo (k + g + 1) = some (.int T2)) (hq : 0 < q) (hq2 : q < 2 ^ 28) (hp : p.natAbs < 2 ^ 58) (hT : T2.natAbs < 2 ^ 28) (hd : d.natAbs < 2 ^ 29) (hf : 2 ^ 8000 ≤ fuel) (hH : Sm 3900 H) (hR : Sm 4000 R) (hG : Sm 4000 (facR d (T2 * q - p) q * H))
    (hr : rec [.tup bo, .int (k + 1), .int (g - 1), .tup [.int p, .int q]] mu = some (.ok (.fz (frD H)), mu)) :
    ∃ x : Slot, sIf (bOf (eBin gtM (eVar 9) (eC (.int 0)))) (sSeq (sSet 10 (eOwn (m__law_low fuel) (aLen 2 (aCons (eBin subI (eBin mulA (eIx (eVar 0) (eBin addA (eBin addA (eVar 1) (eVar 2)) (eC (.int 1)))) (eIx (eVar 3) (eC (.int 1)))) (eIx (eVar 3) (eC (.int 0)))) (aCons (eBin mulA (eVar 9) (eIx (eVar 3) (eC (.int 1)))) aNil)))))
    (sSet 7 (eOwn (m__law_plus fuel) (aLen 2 (aCons (eVar 7) (aCons (eOwn (m__law_mult fuel) (aLen 2 (aCons (eVar 10) (aCons (eOwn rec (aLen 4 (aCons (eVar 0) (aCons (eBin addA (eVar 1) (eC (.int 1))) (aCons (eBin subI (eVar 2) (eC (.int 1))) (aCons (eVar 3) aNil)))))) aNil)))) aNil)))))) sNil
      (rc bo k g p q (.va (frD R)) e (.va (.int d)) .no) mu = some (.fl .nx (rc bo k g p q (.va (frD (R + facR d (T2 * q - p) q * H))) e (.va (.int d)) x), mu) := by
  have hm : q.natAbs < 18446744073709551616 := by omega
  by_cases h : 0 < d
  · have t : bOf (eBin gtM (eVar 9) (eC (.int 0))) (rc bo k g p q (.va (frD R)) e (.va (.int d)) .no) mu = some (.ok true, mu) := by simp [fnM, sSeq, sNil, sMug, sWith, eBin, eIx, eVar, eC, Mi.M.bind, Mi.M.pure, Mi.M.of, Mi.M.no, slotD, ixD, atI0, atI1, atI2, Vl.d, addA, Mi.orM, addI, subI, mulA, mulS, muSet, ixN, sIf, bOf, gtM, ltM, geM, leM, cmpI, blD, sSet, modA, modI, eCall, aCons, aNil, m1, intM, divA, divS, divI, sRet, aLen, eOwn, lenD, rc, h]
    have sf := sm_fac (d := d) (t := T2 * q - p) (w := q) hd hq hq2 (by
      have : (T2 * q).natAbs < 2 ^ 56 := by
        rw [Int.natAbs_mul]
        exact mul_lt hT (show q.natAbs < 2 ^ 28 by omega)
      omega)
    have ef : facR d (T2 * q - p) q = Rat.divInt (T2 * q - p) (d * q) := by
      unfold facR
      rw [if_pos h]
    have pos : 0 < d * q := Int.mul_pos h hq
    have sz : (d * q).natAbs < 2 ^ 57 := by
      rw [Int.natAbs_mul]
      exact Nat.lt_of_lt_of_le (mul_lt hd (show q.natAbs < 2 ^ 28 by omega)) (pw_le (by decide))
    have lo := low_ok (fuel := fuel) (p := T2 * q - p) (q := d * q) (mu := mu) (by omega) (by
      have : 2 ^ 57 ≤ 2 ^ 8000 := pw_le (by decide)
      omega) (Nat.lt_of_lt_of_le sz (pw_le (by decide)))
    rw [← ef] at lo
    generalize hF : facR d (T2 * q - p) q = F at *
    refine ⟨.va (frD F), ?_⟩
    rw [if_t t]
    have a1 : eBin subI (eBin mulA (eIx (eVar 0) (eBin addA (eBin addA (eVar 1) (eVar 2)) (eC (.int 1)))) (eIx (eVar 3) (eC (.int 1)))) (eIx (eVar 3) (eC (.int 0))) (rc bo k g p q (.va (frD R)) e (.va (.int d)) .no) mu = some (.ok (.fz (.int (T2 * q - p))), mu) := by simp [fnM, sSeq, sNil, sMug, sWith, eBin, eIx, eVar, eC, Mi.M.bind, Mi.M.pure, Mi.M.of, Mi.M.no, slotD, ixD, atI0, atI1, atI2, Vl.d, addA, Mi.orM, addI, subI, mulA, mulS, muSet, ixN, sIf, bOf, gtM, ltM, geM, leM, cmpI, blD, sSet, modA, modI, eCall, aCons, aNil, m1, intM, divA, divS, divI, sRet, aLen, eOwn, lenD, rc, e2, atI20, atI21, hm]
    have a2 : eBin mulA (eVar 9) (eIx (eVar 3) (eC (.int 1))) (rc bo k g p q (.va (frD R)) e (.va (.int d)) .no) mu = some (.ok (.fz (.int (d * q))), mu) := by simp [fnM, sSeq, sNil, sMug, sWith, eBin, eIx, eVar, eC, Mi.M.bind, Mi.M.pure, Mi.M.of, Mi.M.no, slotD, ixD, atI0, atI1, atI2, Vl.d, addA, Mi.orM, addI, subI, mulA, mulS, muSet, ixN, sIf, bOf, gtM, ltM, geM, leM, cmpI, blD, sSet, modA, modI, eCall, aCons, aNil, m1, intM, divA, divS, divI, sRet, aLen, eOwn, lenD, rc, atI21, hm]
    have s10 := set_ok (i := 10) (own_ok (n := 2) (args2 a1 a2) rfl lo)
    rw [seq_nx s10]
    have b1 : eVar 7 (rc bo k g p q (.va (frD R)) e (.va (.int d)) (.va (frD F))) mu = some (.ok (.fz (frD R)), mu) := by simp [fnM, sSeq, sNil, sMug, sWith, eBin, eIx, eVar, eC, Mi.M.bind, Mi.M.pure, Mi.M.of, Mi.M.no, slotD, ixD, atI0, atI1, atI2, Vl.d, addA, Mi.orM, addI, subI, mulA, mulS, muSet, ixN, sIf, bOf, gtM, ltM, geM, leM, cmpI, blD, sSet, modA, modI, eCall, aCons, aNil, m1, intM, divA, divS, divI, sRet, aLen, eOwn, lenD, rc]
    have b2 : eVar 10 (rc bo k g p q (.va (frD R)) e (.va (.int d)) (.va (frD F))) mu = some (.ok (.fz (frD F)), mu) := by simp [fnM, sSeq, sNil, sMug, sWith, eBin, eIx, eVar, eC, Mi.M.bind, Mi.M.pure, Mi.M.of, Mi.M.no, slotD, ixD, atI0, atI1, atI2, Vl.d, addA, Mi.orM, addI, subI, mulA, mulS, muSet, ixN, sIf, bOf, gtM, ltM, geM, leM, cmpI, blD, sSet, modA, modI, eCall, aCons, aNil, m1, intM, divA, divS, divI, sRet, aLen, eOwn, lenD, rc]
    have b3 : aCons (eVar 0) (aCons (eBin addA (eVar 1) (eC (.int 1))) (aCons (eBin subI (eVar 2) (eC (.int 1))) (aCons (eVar 3) aNil))) (rc bo k g p q (.va (frD R)) e (.va (.int d)) (.va (frD F))) mu = some (.ok [.tup bo, .int (k + 1), .int (g - 1), .tup [.int p, .int q]], mu) := by simp [fnM, sSeq, sNil, sMug, sWith, eBin, eIx, eVar, eC, Mi.M.bind, Mi.M.pure, Mi.M.of, Mi.M.no, slotD, ixD, atI0, atI1, atI2, Vl.d, addA, Mi.orM, addI, subI, mulA, mulS, muSet, ixN, sIf, bOf, gtM, ltM, geM, leM, cmpI, blD, sSet, modA, modI, eCall, aCons, aNil, m1, intM, divA, divS, divI, sRet, aLen, eOwn, lenD, rc]
    exact set_ok (own_ok (args2 b1 (own_ok (args2 b2 (own_ok b3 rfl hr)) rfl (mult_ok (n := 3900) (sf.up (by decide)) hH (by decide) hf))) rfl (plus_ok (n := 4000) hR hG (by decide) hf))
  · have t : bOf (eBin gtM (eVar 9) (eC (.int 0))) (rc bo k g p q (.va (frD R)) e (.va (.int d)) .no) mu = some (.ok false, mu) := by simp [fnM, sSeq, sNil, sMug, sWith, eBin, eIx, eVar, eC, Mi.M.bind, Mi.M.pure, Mi.M.of, Mi.M.no, slotD, ixD, atI0, atI1, atI2, Vl.d, addA, Mi.orM, addI, subI, mulA, mulS, muSet, ixN, sIf, bOf, gtM, ltM, geM, leM, cmpI, blD, sSet, modA, modI, eCall, aCons, aNil, m1, intM, divA, divS, divI, sRet, aLen, eOwn, lenD, rc, h]
    refine ⟨.no, ?_⟩
    rw [if_f t]
    have ef : facR d (T2 * q - p) q = 0 := by
      unfold facR
      rw [if_neg h]
    rw [ef, Rat.zero_mul, Rat.add_zero]
    rfl
end Ev
end
section
set_option Elab.async false
set_option linter.all false
set_option maxRecDepth 100000
set_option exponentiation.threshold 10000
open PySem PySem.Spec PyProof.Rows L2 Mi Go
namespace Ev
theorem hb_le : ∀ g : Nat, g ≤ 4 → hb g ≤ 1900
  | 0, _ => by decide
  | 1, _ => by decide
  | 2, _ => by decide
  | 3, _ => by decide
  | 4, _ => by decide
  | _ + 5, h => absurd h (by omega)
theorem bumpS {fuel : Nat} {ts : List Int} {p q : Int} {k g : Nat} {rec : FM} {mu : Mu} (hq : 0 < q) (hq2 : q < 2 ^ 28) (hp : p.natAbs < 2 ^ 58) (ht : ∀ i : Nat, (ts[i]! : Int).natAbs < 2 ^ 28) (hk : k + g + 2 < ts.length) (hg : g ≤ 3) (hf : 2 ^ 8000 ≤ fuel)
    (hr : ∀ j : Nat, j ≤ k + 1 → rec [.tup (ts.map .int), .int j, .int g, .tup [.int p, .int q]] mu = some (.ok (.fz (frD (hill ts p q g j))), mu)) :
    fnM 11 (b__law_bump fuel rec) [.tup (ts.map .int), .int k, .int ((g + 1 : Nat) : Int), .tup [.int p, .int q]] mu = some (.ok (.fz (frD (hill ts p q (g + 1) k))), mu) := by
  generalize hG : ((g + 1 : Nat) : Int) = G
  have g1 : G - 1 = (g : Int) := by omega
  have gne : G ≠ 0 := by omega
  have e0 := get_int (ts := ts) (k := k) (by omega)
  have e1 : atI (ts.map D.int) ((k : Int) + 1) = some (.int ts[k + 1]!) := by
    rw [show ((k : Int) + 1) = ((k + 1 : Nat) : Int) by omega]
    exact get_int (by omega)
  have e2 : atI (ts.map D.int) ((k : Int) + G) = some (.int ts[k + g + 1]!) := by
    rw [show ((k : Int) + G) = ((k + g + 1 : Nat) : Int) by omega]
    exact get_int (by omega)
  have e3 : atI (ts.map D.int) ((k : Int) + G + 1) = some (.int ts[k + g + 2]!) := by
    rw [show ((k : Int) + G + 1) = ((k + g + 2 : Nat) : Int) by omega]
    exact get_int (by omega)
  have b0 := ht k
  have b1 := ht (k + 1)
  have b2 := ht (k + g + 1)
  have b3 := ht (k + g + 2)
  have h0 := sm_hill hq hq2 hp ht g k
  have h1 := sm_hill hq hq2 hp ht g (k + 1)
  have hh := hb_le g (by omega)
  have r0 := hr k (by omega)
  have r1 := hr (k + 1) (by omega)
  have d0 : (ts[k + g + 1]! - ts[k]!).natAbs < 2 ^ 29 := by omega
  have d1 : (ts[k + g + 2]! - ts[k + 1]!).natAbs < 2 ^ 29 := by omega
  have w0 : (p - ts[k]! * q).natAbs < 2 ^ 60 := by
    have : (ts[k]! * q).natAbs < 2 ^ 56 := by
      rw [Int.natAbs_mul]
      exact mul_lt b0 (show q.natAbs < 2 ^ 28 by omega)
    omega
  have w1 : (ts[k + g + 2]! * q - p).natAbs < 2 ^ 60 := by
    have : (ts[k + g + 2]! * q).natAbs < 2 ^ 56 := by
      rw [Int.natAbs_mul]
      exact mul_lt b3 (show q.natAbs < 2 ^ 28 by omega)
    omega
  have f0 := sm_mul (sm_fac d0 hq hq2 w0) h0
  have f1 := sm_mul (sm_fac d1 hq hq2 w1) h1
  have P1 := prod1 (fuel := fuel) (rec := rec) (mu := mu) (e := .va (.int (ts[k + g + 2]! - ts[k + 1]!))) (f := .no) e0 hq hq2 hp b0 d0 hf (h0.up (by omega)) (by rw [g1]; exact r0)
  obtain ⟨x, P2⟩ := prod2 (fuel := fuel) (rec := rec) (mu := mu) (e := .va (.int (ts[k + g + 1]! - ts[k]!))) e3 hq hq2 hp b3 d1 hf (h1.up (by omega)) (f0.up (by omega)) (f1.up (by omega)) (by
    rw [g1, show ((k : Int) + 1) = ((k + 1 : Nat) : Int) by omega]
    exact r1)
  have eh : facR (ts[k + g + 1]! - ts[k]!) (p - ts[k]! * q) q * hill ts p q g k + facR (ts[k + g + 2]! - ts[k + 1]!) (ts[k + g + 2]! * q - p) q * hill ts p q g (k + 1) = hill ts p q (g + 1) k := rfl
  rw [eh] at P2
  unfold b__law_bump
  refine fnM_of (rho0 := rc (ts.map .int) k G p q .no .no .no .no) (rho' := rc (ts.map .int) k G p q (.va (frD (hill ts p q (g + 1) k))) (.va (.int (ts[k + g + 1]! - ts[k]!))) (.va (.int (ts[k + g + 2]! - ts[k + 1]!))) x) rfl ?_
  have t : bOf (eBin eqM (eVar 2) (eC (.int 0))) (rc (ts.map .int) k G p q .no .no .no .no) mu = some (.ok false, mu) := by
    rw [test_ok (m := eqM) (v := .fz (.int G)) (w := .fz (.int 0)) rfl rfl (eq_int G 0), decide_eq_false gne]
  rw [seq_nx (rho' := rc (ts.map .int) k G p q .no .no .no .no) (mu' := mu) (by
    rw [if_f t]
    rfl)]
  have p3 : sPar3 7 8 9 (aCons (eCall mTup (aCons (eC (.int 0)) (aCons (eC (.int 1)) aNil))) (aCons (eBin subI (eIx (eVar 0) (eBin addA (eVar 1) (eVar 2))) (eIx (eVar 0) (eVar 1))) (aCons (eBin subI (eIx (eVar 0) (eBin addA (eBin addA (eVar 1) (eVar 2)) (eC (.int 1)))) (eIx (eVar 0) (eBin addA (eVar 1) (eC (.int 1))))) aNil))) (rc (ts.map .int) k G p q .no .no .no .no) mu = some (.fl .nx (rc (ts.map .int) k G p q (.va (frD 0)) (.va (.int (ts[k + g + 1]! - ts[k]!))) (.va (.int (ts[k + g + 2]! - ts[k + 1]!))) .no), mu) := by
    clear P1 P2 f0 f1 w0 w1 d0 d1 h0 h1 hr r0 r1
    generalize ts[k]! = A at *
    generalize ts[k + 1]! = B at *
    generalize ts[k + g + 1]! = C at *
    generalize ts[k + g + 2]! = E at *
    simp [fnM, sSeq, sNil, sMug, sWith, eBin, eIx, eVar, eC, Mi.M.bind, Mi.M.pure, Mi.M.of, Mi.M.no, slotD, ixD, atI0, atI1, atI2, Vl.d, addA, Mi.orM, addI, subI, mulA, mulS, muSet, ixN, sIf, bOf, gtM, ltM, geM, leM, cmpI, blD, sSet, modA, modI, eCall, aCons, aNil, m1, intM, divA, divS, divI, sRet, aLen, eOwn, lenD, sPar3, rc, e0, e1, e2, e3, mTup, frD]
  rw [seq_nx p3, seq_nx P1, seq_nx P2]
  rfl
end Ev
end
section
set_option Elab.async false
set_option linter.all false
set_option maxRecDepth 100000
set_option exponentiation.threshold 10000
open PySem PySem.Spec PyProof.Rows L2 Mi Go
namespace Ev
theorem bump_ok {fuel : Nat} {ts : List Int} {p q : Int} {mu : Mu} (hq : 0 < q) (hq2 : q < 2 ^ 28) (hp : p.natAbs < 2 ^ 58) (ht : ∀ i : Nat, (ts[i]! : Int).natAbs < 2 ^ 28) (hf : 2 ^ 8000 ≤ fuel) : ∀ (g d k : Nat), g ≤ 4 → g < d → k + g + 1 < ts.length →
    mr__law_bump fuel d [.tup (ts.map .int), .int k, .int g, .tup [.int p, .int q]] mu = some (.ok (.fz (frD (hill ts p q g k))), mu)
  | _, 0, _, _, h, _ => absurd h (by omega)
  | 0, d + 1, k, _, _, hk => by
    unfold mr__law_bump
    exact bump0 hq hq2 (by omega)
  | g + 1, d + 1, k, h4, hd, hk => by
    unfold mr__law_bump
    exact bumpS hq hq2 hp ht (by omega) (by omega) hf fun j hj => bump_ok hq hq2 hp ht hf g d j (by omega) (by omega) (by omega)
/-- the values of all hills -/
theorem row_ok {fuel : Nat} {ts : List Int} {p q : Int} {g : Nat} {mu : Mu} (hq : 0 < q) (hq2 : q < 2 ^ 28) (hp : p.natAbs < 2 ^ 58) (ht : ∀ i : Nat, (ts[i]! : Int).natAbs < 2 ^ 28) (hg : g ≤ 4) (hl : g + 1 ≤ ts.length) (hl2 : ts.length ≤ 10000) (hf : 2 ^ 8000 ≤ fuel) :
    m__law_row fuel [.int g, .tup (ts.map .int), .tup [.int p, .int q]] mu = some (.ok (.fz (.lst ((List.range (ts.length - g - 1)).map fun k => frD (hill ts p q g k)))), mu) := by
  unfold m__law_row b__law_row
  refine fnM_of (rho0 := [.va (.int g), .va (.tup (ts.map .int)), .va (.tup [.int p, .int q]), .no]) (rho' := [.va (.int g), .va (.tup (ts.map .int)), .va (.tup [.int p, .int q]), .no]) rfl ?_
  have a1 : aCons (eBin subI (eBin subI (eCall (m1 lenD) (aCons (eVar 1) aNil)) (eVar 0)) (eC (.int 1))) aNil [.va (.int g), .va (.tup (ts.map .int)), .va (.tup [.int p, .int q]), .no] mu = some (.ok [.int ((ts.length - g - 1 : Nat) : Int)], mu) := by
    have : ((ts.length : Int) - g - 1) = ((ts.length - g - 1 : Nat) : Int) := by omega
    rw [← this]
    simp [fnM, sSeq, sNil, sMug, sWith, eBin, eIx, eVar, eC, Mi.M.bind, Mi.M.pure, Mi.M.of, Mi.M.no, slotD, ixD, atI0, atI1, atI2, Vl.d, addA, Mi.orM, addI, subI, mulA, mulS, muSet, ixN, sIf, bOf, gtM, ltM, geM, leM, cmpI, blD, sSet, modA, modI, eCall, aCons, aNil, m1, intM, divA, divS, divI, sRet, aLen, eOwn, lenD]
  have lk := lcL_look (put := fun d rho => some (rho.set 3 (.va d))) (t := bYes) (f := eOwn (m__law_bump fuel) (aLen 4 (aCons (eVar 1) (aCons (eVar 3) (aCons (eVar 0) (aCons (eVar 2) aNil)))))) (rho := wipeR [.va (.int g), .va (.tup (ts.map .int)), .va (.tup [.int p, .int q]), .no] [3]) (mu := mu) (p := fun _ => true) (g := fun d => match d with
      | .int j => frD (hill ts p q g j.toNat)
      | _ => .non) (ds := upI 0 (ts.length - g - 1)) (acc := []) (fun d hd => by
    rw [upI_map] at hd
    obtain ⟨i, hi, rfl⟩ := List.mem_map.mp hd
    have hi := List.mem_range.mp hi
    refine ⟨_, rfl, rfl, fun _ => ⟨.fz (frD (hill ts p q g i)), ?_, ?_⟩⟩
    · refine own_ok (n := 4) (ds := [.tup (ts.map .int), .int i, .int g, .tup [.int p, .int q]]) (mu1 := mu) ?_ rfl (bump_ok hq hq2 hp ht hf g 8 i hg (by omega) (by omega))
      rw [Int.zero_add]
      rfl
    · rw [Int.zero_add]
      rfl) (by
    rw [upI_map, List.length_map, List.length_range]
    show 0 + _ ≤ _
    omega)
  have r := lcR_ok (rg := rng1) (vs := [3]) a1 (lo := 0) (n := ts.length - g - 1) (by
    show (if -1000000 ≤ ((ts.length - g - 1 : Nat) : Int) ∧ ((ts.length - g - 1 : Nat) : Int) ≤ 100000000 then some ((0 : Int), ((ts.length - g - 1 : Nat) : Int).toNat) else none) = _
    rw [if_pos (by omega)]
    rfl) lk
  unfold sRet sWith
  rw [r]
  rw [upI_map, List.nil_append, List.filter_eq_self.mpr (fun _ _ => rfl), List.map_map]
  show some (Res.fl (Fl.rt (Vl.fz (D.lst _))) _, mu) = some (Res.fl (Fl.rt (Vl.fz (D.lst _))) _, mu)
  congr 6
  refine List.map_congr_left fun i _ => ?_
  show frD (hill ts p q g ((0 : Int) + (i : Nat)).toNat) = _
  rw [Int.zero_add]
  rfl
end Ev
end
section
set_option Elab.async false
set_option linter.all false
set_option maxRecDepth 100000
set_option exponentiation.threshold 10000
open PySem PySem.Spec PyProof.Rows L2 Mi Go
namespace Ev
abbrev rs (dr : D) (N : Int) (a b c d e : Slot) : List Slot := [.va .mug, .va dr, .va (.int N), a, b, c, d, e]
/-- the drawn places -/
theorem sites_ok {ds : List D} {g N : Nat} {ts : List Int} {lo hi : Int} (hm : MugL ds) (hN : 0 < N) (hN2 : N ≤ 60) (hl : 0 < ts.length) (hl2 : ts.length ≤ 10000) (h0 : ts[0]! = lo) (h1 : ts[ts.length - 1]! = hi) (hlo : 0 ≤ lo) (hh : lo ≤ hi) (hb : hi < 2 ^ 60) (ht : ∀ x ∈ ts, 0 ≤ x ∧ x ≤ hi) :
    ∃ (xs : List Int) (ds' : List D), m__law_sites [.mug, .lst [.int g, .tup (ts.map .int)], .int N] (some ds) = some (.ok (.fz (.tup (xs.map .int))), some ds') ∧ MugL ds' ∧ xs.Pairwise (· < ·) ∧ ∀ x ∈ xs, 0 ≤ x ∧ x ≤ hi + 2 := by
  have e0 := get_int (ts := ts) (k := 0) hl
  have el := get_last (ts := ts) hl
  rw [h0] at e0
  rw [h1] at el
  generalize hdr : D.lst [.int g, .tup (ts.map .int)] = dr
  have s1 : sPut (putS [3, 4]) (eCall mTup (aCons (eIx (eIx (eVar 1) (eC (.int 1))) (eC (.int 0))) (aCons (eIx (eIx (eVar 1) (eC (.int 1))) (eUn negI (eC (.int 1)))) aNil))) (rs dr N .no .no .no .no .no) (some ds) = some (.fl .nx (rs dr N (.va (.int lo)) (.va (.int hi)) .no .no .no), some ds) := by
    refine put_ok (v := .fz (.tup [.int lo, .int hi])) ?_ rfl
    subst hdr
    have e0' : atI (ts.map D.int) 0 = some (.int lo) := e0
    simp [fnM, sSeq, sNil, sMug, sWith, eBin, eIx, eVar, eC, Mi.M.bind, Mi.M.pure, Mi.M.of, Mi.M.no, slotD, ixD, atI0, atI1, atI2, Vl.d, addA, Mi.orM, addI, subI, mulA, mulS, muSet, ixN, sIf, bOf, gtM, ltM, geM, leM, cmpI, blD, sSet, modA, modI, eCall, aCons, aNil, m1, intM, divA, divS, divI, sRet, aLen, eOwn, lenD, rs, mTup, eUn, negI, atI21, e0', el]
  obtain ⟨out, mu', c1, ol, op, d1, rfl, hm1⟩ := lcL_inv (put := fun d rho => some (rho.set 7 (.va d))) (t := bYes) (f := eBin addA (eVar 3) (eOwn m__law_sip (aLen 2 (aCons (eVar 0) (aCons (eBin addA (eBin subI (eVar 4) (eVar 3)) (eC (.int 1))) aNil))))) (rho := wipeR (rs dr N (.va (.int lo)) (.va (.int hi)) .no .no .no) [7]) (I := fun mu => ∃ d, mu = some d ∧ MugL d) (P := fun x => ∃ r, x = .int r ∧ 0 ≤ r ∧ r ≤ hi + 1) (ds := upI 0 N) (acc := []) (mu := some ds)
    (fun d _ mu ⟨d0, hmu, hm0⟩ => by
      subst hmu
      obtain ⟨r, d1, e1, hm1, r1, r2⟩ := sip_ok (top := hi - lo + 1) hm0 (by omega) (by omega)
      refine ⟨_, .fz (.int (lo + r)), some d1, rfl, rfl, ?_, ⟨d1, rfl, hm1⟩, lo + r, rfl, by omega, by omega⟩
      simp [fnM, sSeq, sNil, sMug, sWith, eBin, eIx, eVar, eC, Mi.M.bind, Mi.M.pure, Mi.M.of, Mi.M.no, slotD, ixD, atI0, atI1, atI2, Vl.d, addA, Mi.orM, addI, subI, mulA, mulS, muSet, ixN, sIf, bOf, gtM, ltM, geM, leM, cmpI, blD, sSet, modA, modI, eCall, aCons, aNil, m1, intM, divA, divS, divI, sRet, aLen, eOwn, lenD, rs, wipeR, e1]) ⟨ds, rfl, hm⟩ (by rw [upI_len]; simp; omega)
  obtain ⟨ns, rfl, hn⟩ := as_ints op
  rw [upI_len, List.length_map] at ol
  have lc1 := lcR_ok (rg := rng1) (vs := [7]) (fi := aCons (eVar 2) aNil) (rho := rs dr N (.va (.int lo)) (.va (.int hi)) .no .no .no) (mu := some ds) (args := [.int (N : Int)]) (mu1 := some ds) (lo := 0) (n := N) (by simp [fnM, sSeq, sNil, sMug, sWith, eBin, eIx, eVar, eC, Mi.M.bind, Mi.M.pure, Mi.M.of, Mi.M.no, slotD, ixD, atI0, atI1, atI2, Vl.d, addA, Mi.orM, addI, subI, mulA, mulS, muSet, ixN, sIf, bOf, gtM, ltM, geM, leM, cmpI, blD, sSet, modA, modI, eCall, aCons, aNil, m1, intM, divA, divS, divI, sRet, aLen, eOwn, lenD, rs]) (by
    show (if -1000000 ≤ (N : Int) ∧ (N : Int) ≤ 100000000 then some ((0 : Int), ((N : Int)).toNat) else none) = _
    rw [if_pos (by omega)]
    rfl) c1
  rw [List.nil_append] at lc1
  generalize hM : ts ++ [(if lo - 1 > 0 then lo - 1 else 0), hi + 1] ++ ns = ms
  have hms : ∀ x ∈ ms, 0 ≤ x ∧ x ≤ hi + 1 := by
    subst hM
    intro x hx
    rcases List.mem_append.mp hx with hx | hx
    · rcases List.mem_append.mp hx with hx | hx
      · have := ht x hx
        omega
      · rcases List.mem_cons.mp hx with rfl | hx
        · split <;> omega
        · have := List.mem_singleton.mp hx
          omega
    · exact hn x hx
  have lms : ms ≠ [] ∧ ms.length < 100000 := by
    subst hM
    refine ⟨by simp, ?_⟩
    simp only [List.length_append, List.length_cons, List.length_nil]
    omega
  have s2 : sSet 5 (eBin addA (eBin addA (eCall (m1 listM) (aCons (eIx (eVar 1) (eC (.int 1))) aNil)) (eCall mLst (aCons (eCall (orC (m2 maxM) (m1 maxL)) (aCons (eC (.int 0)) (aCons (eBin subI (eVar 3) (eC (.int 1))) aNil))) (aCons (eBin addA (eVar 4) (eC (.int 1))) aNil)))) (eLcR rng1 (aCons (eVar 2) aNil) (fun d rho => some (rho.set 7 (.va d))) [7] bYes (eBin addA (eVar 3) (eOwn m__law_sip (aLen 2 (aCons (eVar 0) (aCons (eBin addA (eBin subI (eVar 4) (eVar 3)) (eC (.int 1))) aNil)))))))
      (rs dr N (.va (.int lo)) (.va (.int hi)) .no .no .no) (some ds) = some (.fl .nx (rs dr N (.va (.int lo)) (.va (.int hi)) (.va (.lst (ms.map .int))) .no .no), some d1) := by
    refine set_ok (v := .fr (ms.map .int)) ?_
    have hA : eBin addA (eCall (m1 listM) (aCons (eIx (eVar 1) (eC (.int 1))) aNil)) (eCall mLst (aCons (eCall (orC (m2 maxM) (m1 maxL)) (aCons (eC (.int 0)) (aCons (eBin subI (eVar 3) (eC (.int 1))) aNil))) (aCons (eBin addA (eVar 4) (eC (.int 1))) aNil))) (rs dr N (.va (.int lo)) (.va (.int hi)) .no .no .no) (some ds) = some (.ok (.fr ((ts ++ [(if lo - 1 > 0 then lo - 1 else 0), hi + 1]).map .int)), some ds) := by
      subst hdr
      have l8 : ts.length ≤ 99998 := by omega
      simp [fnM, sSeq, sNil, sMug, sWith, eBin, eIx, eVar, eC, Mi.M.bind, Mi.M.pure, Mi.M.of, Mi.M.no, slotD, ixD, atI0, atI1, atI2, Vl.d, addA, Mi.orM, addI, subI, mulA, mulS, muSet, ixN, sIf, bOf, gtM, ltM, geM, leM, cmpI, blD, sSet, modA, modI, eCall, aCons, aNil, m1, intM, divA, divS, divI, sRet, aLen, eOwn, lenD, rs, mLst, m2, maxM, orC, listM, atI21, catL, l8]
    refine bin_ok hA lc1 ?_
    subst hM
    have hc : catL (.lst ((ts ++ [(if lo - 1 > 0 then lo - 1 else 0), hi + 1]).map .int)) (.lst (ns.map .int)) = some (.fr ((ts ++ [(if lo - 1 > 0 then lo - 1 else 0), hi + 1] ++ ns).map .int)) := by
      rw [List.map_append (l₁ := ts ++ _)]
      unfold catL
      simp only [List.length_map, List.length_append, List.length_cons, List.length_nil]
      exact if_pos (by omega)
    show (match catL (.lst ((ts ++ [(if lo - 1 > 0 then lo - 1 else 0), hi + 1]).map .int)) (.lst (ns.map .int)) with
      | some z => some z
      | none => _) = _
    rw [hc]
  obtain ⟨n1, d2, x2, hm2, a2, b2⟩ := sip_ok (top := N) hm1 (by omega) (by omega)
  obtain ⟨n2, rfl⟩ := Int.eq_ofNat_of_zero_le a2
  obtain ⟨out, mu', c2, ol2, op2, d3, rfl, hm3⟩ := lcL_inv (put := fun d rho => some (rho.set 7 (.va d))) (t := bYes) (f := eBin addA (eOwn m__law_pick (aLen 2 (aCons (eVar 0) (aCons (eVar 5) aNil)))) (eOwn m__law_pick (aLen 2 (aCons (eVar 0) (aCons (eCall mLst (aCons (eC (.int 0)) (aCons (eC (.int 0)) (aCons (eC (.int 0)) (aCons (eC (.int 1)) aNil))))) aNil))))) (rho := wipeR (rs dr N (.va (.int lo)) (.va (.int hi)) (.va (.lst (ms.map .int))) .no .no) [7]) (I := fun mu => ∃ d, mu = some d ∧ MugL d) (P := fun x => ∃ r, x = .int r ∧ 0 ≤ r ∧ r ≤ hi + 2) (ds := upI 0 (1 + n2)) (acc := []) (mu := some d2)
    (fun d _ mu ⟨d0, hmu, hm0⟩ => by
      subst hmu
      obtain ⟨y, d4, e4, hm4, hy⟩ := pick_ok (xs := ms.map .int) hm0 (by
        intro z
        exact lms.1 (List.map_eq_nil_iff.mp z)) (by rw [List.length_map]; exact lms.2)
      obtain ⟨z, d5, e5, hm5, hz⟩ := pick_ok (xs := [.int 0, .int 0, .int 0, .int 1]) hm4 (by simp) (by decide)
      obtain ⟨y, hy2, rfl⟩ := List.mem_map.mp hy
      obtain ⟨z, z0, z1, rfl⟩ : ∃ j : Int, 0 ≤ j ∧ j ≤ 1 ∧ z = .int j := by
        simp only [List.mem_cons, List.not_mem_nil, or_false] at hz
        rcases hz with rfl | rfl | rfl | rfl
        · exact ⟨0, by decide, by decide, rfl⟩
        · exact ⟨0, by decide, by decide, rfl⟩
        · exact ⟨0, by decide, by decide, rfl⟩
        · exact ⟨1, by decide, by decide, rfl⟩
      have := hms y hy2
      refine ⟨_, .fz (.int (y + z)), some d5, rfl, rfl, ?_, ⟨d5, rfl, hm5⟩, y + z, rfl, by omega, by omega⟩
      simp [fnM, sSeq, sNil, sMug, sWith, eBin, eIx, eVar, eC, Mi.M.bind, Mi.M.pure, Mi.M.of, Mi.M.no, slotD, ixD, atI0, atI1, atI2, Vl.d, addA, Mi.orM, addI, subI, mulA, mulS, muSet, ixN, sIf, bOf, gtM, ltM, geM, leM, cmpI, blD, sSet, modA, modI, eCall, aCons, aNil, m1, intM, divA, divS, divI, sRet, aLen, eOwn, lenD, rs, wipeR, mLst, e4, e5]) ⟨d2, rfl, hm2⟩ (by rw [upI_len]; simp; omega)
  obtain ⟨ys, rfl, hy⟩ := as_ints op2
  rw [upI_len, List.length_map] at ol2
  have lc2 := lcR_ok (rg := rng1) (vs := [7]) (fi := aCons (eBin addA (eC (.int 1)) (eOwn m__law_sip (aLen 2 (aCons (eVar 0) (aCons (eVar 2) aNil))))) aNil) (args := [.int (1 + (n2 : Int))]) (rho := rs dr N (.va (.int lo)) (.va (.int hi)) (.va (.lst (ms.map .int))) .no .no) (mu := some d1) (mu1 := some d2) (lo := 0) (n := 1 + n2) (by simp [fnM, sSeq, sNil, sMug, sWith, eBin, eIx, eVar, eC, Mi.M.bind, Mi.M.pure, Mi.M.of, Mi.M.no, slotD, ixD, atI0, atI1, atI2, Vl.d, addA, Mi.orM, addI, subI, mulA, mulS, muSet, ixN, sIf, bOf, gtM, ltM, geM, leM, cmpI, blD, sSet, modA, modI, eCall, aCons, aNil, m1, intM, divA, divS, divI, sRet, aLen, eOwn, lenD, rs, x2]) (by
    show (if -1000000 ≤ 1 + (n2 : Int) ∧ 1 + (n2 : Int) ≤ 100000000 then some ((0 : Int), (1 + (n2 : Int)).toNat) else none) = _
    rw [if_pos (by omega)]
    congr 2) c2
  rw [List.nil_append] at lc2
  have s3 := set_ok (i := 6) lc2
  refine ⟨dedI (sortI ys), d3, ?_, hm3, dedI_lt _ (sortI_sorted ys), fun x hx => hy x ((sortI_perm ys).mem_iff.mp ((dedI_mem _ _).mp hx))⟩
  unfold m__law_sites b__law_sites
  refine fnM_of (rho0 := rs dr N .no .no .no .no .no) (rho' := rs dr N (.va (.int lo)) (.va (.int hi)) (.va (.lst (ms.map .int))) (.va (.lst (ys.map .int))) .no) rfl ?_
  rw [seq_nx s1, seq_nx s2, seq_nx s3]
  have sos : sosM (.lst (ys.map .int)) = some (.fr ((dedI (sortI ys)).map .int)) := by
    show (match intsD (ys.map D.int) with
      | some ns => if ns.length < 64 then some (Vl.fr ((dedI (sortI ns)).map .int)) else none
      | none => none) = _
    rw [intsD_map]
    exact if_pos (by omega)
  simp [fnM, sSeq, sNil, sMug, sWith, eBin, eIx, eVar, eC, Mi.M.bind, Mi.M.pure, Mi.M.of, Mi.M.no, slotD, ixD, atI0, atI1, atI2, Vl.d, addA, Mi.orM, addI, subI, mulA, mulS, muSet, ixN, sIf, bOf, gtM, ltM, geM, leM, cmpI, blD, sSet, modA, modI, eCall, aCons, aNil, m1, intM, divA, divS, divI, sRet, aLen, eOwn, lenD, rs, eSos, sos, tupM]
end Ev
end
section
set_option Elab.async false
set_option linter.all false
set_option maxRecDepth 100000
open PySem PySem.Spec PyProof.Rows L2 Mi Go
namespace Ev
/-- the knots ascend -/
def Asc (ts : List Int) : Prop := ∀ i j, i ≤ j → j < ts.length → ts[i]! ≤ ts[j]!
theorem mul_le_r {a b q : Int} (h : a ≤ b) (hq : 0 < q) : a * q ≤ b * q := Int.mul_le_mul_of_nonneg_right h (by omega)
theorem lt_of_mul_r {a b q : Int} (h : a * q < b * q) (hq : 0 < q) : a < b := Int.lt_of_mul_lt_mul_right h (by omega)
theorem hill_S {ts : List Int} {p q : Int} {g k : Nat} : hill ts p q (g + 1) k = facR (ts[k + g + 1]! - ts[k]!) (p - ts[k]! * q) q * hill ts p q g k + facR (ts[k + g + 2]! - ts[k + 1]!) (ts[k + g + 2]! * q - p) q * hill ts p q g (k + 1) := rfl
/-- where a hill is not nothing -/
structure Sup (ts : List Int) (p q : Int) (a b : Nat) : Prop where
  lo : ts[a]! * q ≤ p
  hi : p ≤ ts[b]! * q
  in' : p ≠ ts[ts.length - 1]! * q → p < ts[b]! * q
  lt : ts[a]! < ts[b]!
theorem supp {ts : List Int} {p q : Int} (hs : Asc ts) (hq : 0 < q) : ∀ (g k : Nat), k + g + 1 < ts.length → hill ts p q g k ≠ 0 → Sup ts p q k (k + g + 1)
  | 0, k, hk, h => by
    show Sup ts p q k (k + 1)
    unfold hill at h
    by_cases hb : inB ts p q k = true
    · unfold inB at hb
      by_cases he : p = ts[ts.length - 1]! * q
      · rw [if_pos he, Bool.and_eq_true, decide_eq_true_eq, decide_eq_true_eq] at hb
        exact ⟨by omega, hb.2, fun z => absurd he z, lt_of_mul_r (q := q) (by omega) hq⟩
      · rw [if_neg he, Bool.and_eq_true, decide_eq_true_eq, decide_eq_true_eq] at hb
        exact ⟨hb.1, by omega, fun _ => hb.2, lt_of_mul_r (q := q) (by omega) hq⟩
    · rw [if_neg hb] at h
      exact absurd rfl h
  | g + 1, k, hk, h => by
    have m1 := hs k (k + 1) (by omega) (by omega)
    have m2 := hs (k + g + 1) (k + g + 2) (by omega) (by omega)
    have n1 := mul_le_r m1 hq
    have n2 := mul_le_r m2 hq
    by_cases h0 : hill ts p q g k = 0
    · by_cases h1 : hill ts p q g (k + 1) = 0
      · rw [hill_S, h0, h1, Rat.mul_zero, Rat.mul_zero] at h
        exact absurd (Rat.add_zero 0) h
      · have s := supp hs hq g (k + 1) (by omega) h1
        have e : k + 1 + g + 1 = k + (g + 1) + 1 := by omega
        rw [e] at s
        exact ⟨by have := s.lo; omega, s.hi, s.in', by have := s.lt; omega⟩
    · have s := supp hs hq g k (by omega) h0
      have e : k + (g + 1) + 1 = k + g + 2 := by omega
      rw [e]
      exact ⟨s.lo, by have := s.hi; omega, fun z => by have := s.in' z; omega, by have := s.lt; omega⟩
theorem facR_nn {d t w : Int} (ht : 0 ≤ t) (hw : 0 < w) : 0 ≤ facR d t w := by
  unfold facR
  by_cases h : 0 < d
  · rw [if_pos h]
    exact Rat.divInt_nonneg ht (Int.le_of_lt (Int.mul_pos h hw))
  · rw [if_neg h]
    exact Rat.le_refl
/-- the two parts of a hill -/
def Lp (ts : List Int) (p q : Int) (g k : Nat) : Rat := facR (ts[k + g + 1]! - ts[k]!) (p - ts[k]! * q) q * hill ts p q g k
def Rp' (ts : List Int) (p q : Int) (g k : Nat) : Rat := facR (ts[k + g + 1]! - ts[k]!) (ts[k + g + 1]! * q - p) q * hill ts p q g k
theorem hill_LR {ts : List Int} {p q : Int} {g k : Nat} : hill ts p q (g + 1) k = Lp ts p q g k + Rp' ts p q g (k + 1) := by
  rw [hill_S]
  unfold Lp Rp'
  rw [show k + 1 + g + 1 = k + g + 2 by omega]
theorem fac_one {d s t w : Int} (hd : 0 < d) (hw : 0 < w) (e : s + t = d * w) : facR d s w + facR d t w = 1 := by
  unfold facR
  rw [if_pos hd, if_pos hd]
  have z : d * w ≠ 0 := by
    have := Int.mul_pos hd hw
    omega
  rw [Rat.divInt_add_divInt _ _ z z, ← Int.add_mul, e]
  exact Rat.divInt_self' (Int.mul_ne_zero z z)
theorem LR {ts : List Int} {p q : Int} (hs : Asc ts) (hq : 0 < q) {g k : Nat} (hk : k + g + 1 < ts.length) : Lp ts p q g k + Rp' ts p q g k = hill ts p q g k := by
  unfold Lp Rp'
  by_cases h : hill ts p q g k = 0
  · rw [h, Rat.mul_zero, Rat.mul_zero]
    exact Rat.add_zero 0
  · have s := supp hs hq g k hk h
    have := s.lt
    rw [← Rat.add_mul, fac_one (by omega) hq (by rw [Int.sub_mul]; omega), Rat.one_mul]
theorem hill_nn {ts : List Int} {p q : Int} (hs : Asc ts) (hq : 0 < q) : ∀ (g k : Nat), k + g + 1 < ts.length → 0 ≤ hill ts p q g k
  | 0, k, _ => by
    unfold hill
    split
    · decide
    · exact Rat.le_refl
  | g + 1, k, hk => by
    rw [hill_S]
    refine Rat.add_nonneg ?_ ?_
    · by_cases h : hill ts p q g k = 0
      · rw [h, Rat.mul_zero]
        exact Rat.le_refl
      · have s := (supp hs hq g k (by omega) h).lo
        exact Rat.mul_nonneg (facR_nn (by omega) hq) (hill_nn hs hq g k (by omega))
    · by_cases h : hill ts p q g (k + 1) = 0
      · rw [h, Rat.mul_zero]
        exact Rat.le_refl
      · have s := (supp hs hq g (k + 1) (by omega) h).hi
        rw [show k + 1 + g + 1 = k + g + 2 by omega] at s
        exact Rat.mul_nonneg (facR_nn (by omega) hq) (hill_nn hs hq g (k + 1) (by omega))
theorem L_nn {ts : List Int} {p q : Int} (hs : Asc ts) (hq : 0 < q) {g k : Nat} (hk : k + g + 1 < ts.length) : 0 ≤ Lp ts p q g k := by
  unfold Lp
  by_cases h : hill ts p q g k = 0
  · rw [h, Rat.mul_zero]
    exact Rat.le_refl
  · have s := (supp hs hq g k hk h).lo
    exact Rat.mul_nonneg (facR_nn (by omega) hq) (hill_nn hs hq g k hk)
theorem R_nn {ts : List Int} {p q : Int} (hs : Asc ts) (hq : 0 < q) {g k : Nat} (hk : k + g + 1 < ts.length) : 0 ≤ Rp' ts p q g k := by
  unfold Rp'
  by_cases h : hill ts p q g k = 0
  · rw [h, Rat.mul_zero]
    exact Rat.le_refl
  · have s := (supp hs hq g k hk h).hi
    exact Rat.mul_nonneg (facR_nn (by omega) hq) (hill_nn hs hq g k hk)
/-- the first n hills together -/
def sumH (ts : List Int) (p q : Int) (g : Nat) : Nat → Rat
  | 0 => 0
  | n + 1 => sumH ts p q g n + hill ts p q g n
theorem sum_S {ts : List Int} {p q : Int} (hs : Asc ts) (hq : 0 < q) {g : Nat} : ∀ n : Nat, n + g + 1 < ts.length → sumH ts p q (g + 1) n + Rp' ts p q g 0 + Lp ts p q g n = sumH ts p q g (n + 1)
  | 0, hk => by
    show (0 : Rat) + _ + _ = 0 + _
    rw [← LR hs hq hk]
    grind
  | n + 1, hk => by
    have ih := sum_S (p := p) hs hq (g := g) n (by omega)
    have e := LR (p := p) hs hq hk
    show sumH ts p q (g + 1) n + hill ts p q (g + 1) n + _ + _ = sumH ts p q g (n + 1) + hill ts p q g (n + 1)
    rw [← ih, ← e, hill_LR]
    grind
/-- degree 0 -/
theorem sum0 {ts : List Int} {p q : Int} (hs : Asc ts) (hq : 0 < q) : ∀ n : Nat, n < ts.length → sumH ts p q 0 n = if (if p = ts[ts.length - 1]! * q then decide (ts[0]! * q < p) && decide (p ≤ ts[n]! * q) else decide (ts[0]! * q ≤ p) && decide (p < ts[n]! * q)) = true then 1 else 0
  | 0, _ => by
    show (0 : Rat) = _
    rw [if_neg]
    split <;> simp <;> omega
  | n + 1, hn => by
    show sumH ts p q 0 n + hill ts p q 0 n = _
    rw [sum0 hs hq n (by omega)]
    unfold hill inB
    have m1 := mul_le_r (hs 0 n (by omega) (by omega)) hq
    have m2 := mul_le_r (hs n (n + 1) (by omega) (by omega)) hq
    by_cases he : p = ts[ts.length - 1]! * q
    · simp only [if_pos he, Bool.and_eq_true, decide_eq_true_eq]
      by_cases c1 : ts[0]! * q < p ∧ p ≤ ts[n]! * q
      · rw [if_pos c1, if_neg (by omega), if_pos (by omega)]
        exact Rat.add_zero 1
      · rw [if_neg c1]
        by_cases c2 : ts[n]! * q < p ∧ p ≤ ts[n + 1]! * q
        · rw [if_pos c2, if_pos (by omega)]
          exact Rat.zero_add 1
        · rw [if_neg c2, if_neg (by omega)]
          exact Rat.add_zero 0
    · simp only [if_neg he, Bool.and_eq_true, decide_eq_true_eq]
      by_cases c1 : ts[0]! * q ≤ p ∧ p < ts[n]! * q
      · rw [if_pos c1, if_neg (by omega), if_pos (by omega)]
        exact Rat.add_zero 1
      · rw [if_neg c1]
        by_cases c2 : ts[n]! * q ≤ p ∧ p < ts[n + 1]! * q
        · rw [if_pos c2, if_pos (by omega)]
          exact Rat.zero_add 1
        · rw [if_neg c2, if_neg (by omega)]
          exact Rat.add_zero 0
/-- never above 1 -/
theorem sum_le {ts : List Int} {p q : Int} (hs : Asc ts) (hq : 0 < q) : ∀ g n : Nat, n + g < ts.length → sumH ts p q g n ≤ 1
  | 0, n, hn => by
    rw [sum0 hs hq n (by omega)]
    generalize (if p = ts[ts.length - 1]! * q then decide (ts[0]! * q < p) && decide (p ≤ ts[n]! * q) else decide (ts[0]! * q ≤ p) && decide (p < ts[n]! * q)) = b
    cases b <;> decide
  | g + 1, n, hn => by
    have e := sum_S (p := p) hs hq (g := g) n (by omega)
    have ih := sum_le (p := p) hs hq g (n + 1) (by omega)
    have a := R_nn (p := p) hs hq (g := g) (k := 0) (by omega)
    have b := L_nn (p := p) hs hq (g := g) (k := n) (by omega)
    rw [← e] at ih
    grind
/-- 1 between the inner end knots -/
theorem sum_one {ts : List Int} {p q : Int} (hs : Asc ts) (hq : 0 < q) : ∀ g n : Nat, n + g + 1 = ts.length → ts[g]! * q ≤ p → p < ts[n]! * q → sumH ts p q g n = 1
  | 0, n, hn, h1, h2 => by
    have e : p ≠ ts[ts.length - 1]! * q := by
      rw [← hn]
      show p ≠ ts[n]! * q
      omega
    rw [sum0 hs hq n (by omega), if_neg e, if_pos]
    rw [Bool.and_eq_true, decide_eq_true_eq, decide_eq_true_eq]
    exact ⟨h1, h2⟩
  | g + 1, n, hn, h1, h2 => by
    have e := sum_S (p := p) hs hq (g := g) n (by omega)
    have m1 := mul_le_r (hs g (g + 1) (by omega) (by omega)) hq
    have m2 := mul_le_r (hs n (n + 1) (by omega) (by omega)) hq
    have m3 := mul_le_r (hs n (ts.length - 1) (by omega) (by omega)) hq
    have ih := sum_one (p := p) hs hq g (n + 1) (by omega) (by omega) (by omega)
    have z0 : hill ts p q g 0 = 0 := by
      refine Decidable.byContradiction fun z => ?_
      have s := (supp hs hq g 0 (by omega) z).in' (by omega)
      rw [show 0 + g + 1 = g + 1 by omega] at s
      omega
    have zn : hill ts p q g n = 0 := by
      refine Decidable.byContradiction fun z => ?_
      have s := (supp hs hq g n (by omega) z).lo
      omega
    rw [← ih, ← e]
    unfold Lp Rp'
    rw [z0, zn, Rat.mul_zero, Rat.mul_zero, Rat.add_zero, Rat.add_zero]
end Ev
end
section
set_option Elab.async false
set_option linter.all false
set_option maxRecDepth 100000
set_option exponentiation.threshold 10000
open PySem PySem.Spec PyProof.Rows L2 Mi Go
namespace Ev
theorem isint_ok {i : Int} {mu : Mu} : m_is_integer [.int i] mu = some (.ok (.fz (.bl true)), mu) := rfl
theorem within_ok {v lo hi : Int} {mu : Mu} : m_is_integer_within [.int v, .int lo, .int hi] mu = some (.ok (.fz (.bl (decide (lo ≤ v) && decide (v ≤ hi)))), mu) := by
  by_cases h1 : lo ≤ v <;> by_cases h2 : v ≤ hi <;> simp [fnM, sSeq, sNil, sMug, sWith, eBin, eIx, eVar, eC, Mi.M.bind, Mi.M.pure, Mi.M.of, Mi.M.no, slotD, ixD, atI0, atI1, atI2, Vl.d, addA, Mi.orM, addI, subI, mulA, mulS, muSet, ixN, sIf, bOf, gtM, ltM, geM, leM, cmpI, blD, sSet, modA, modI, eCall, aCons, aNil, m1, intM, divA, divS, divI, sRet, aLen, eOwn, lenD, m_is_integer_within, b_is_integer_within, isint_ok, eAnd, eChain, h1, h2]
theorem reduced_ok {p q : Int} {mu : Mu} (hq : 0 < q) (hb : q.natAbs < 2 ^ 9000) : m_reduced [.int p, .int q] mu = some (.ok (.fz (frD (Rat.divInt p q))), mu) := by
  have pos : 0 < Int.gcd p q := Nat.pos_of_ne_zero fun z => by have := (Int.gcd_eq_zero_iff.mp z).2; omega
  have le : Int.gcd p q ≤ q.natAbs := Nat.le_of_dvd (by omega) (Int.natCast_dvd_natCast.mp (Int.dvd_natAbs.mpr (Int.gcd_dvd_right ..)))
  have hn := Rat.num_divInt p q
  have hd := Rat.den_divInt p q
  rw [if_neg (by omega)] at hd
  rw [Int.gcd_comm] at hn hd
  have d1 := divA_pos (i := p) (j := (Int.gcd p q : Int)) (by omega) (by omega)
  have d2 := divA_pos (i := q) (j := (Int.gcd p q : Int)) (by omega) (by omega)
  have eg : (Nat.gcd p.natAbs q.natAbs) = Int.gcd p q := rfl
  simp [fnM, sSeq, sNil, sMug, sWith, eBin, eIx, eVar, eC, Mi.M.bind, Mi.M.pure, Mi.M.of, Mi.M.no, slotD, ixD, atI0, atI1, atI2, Vl.d, addA, Mi.orM, addI, subI, mulA, mulS, muSet, ixN, sIf, bOf, gtM, ltM, geM, leM, cmpI, blD, sSet, modA, modI, eCall, aCons, aNil, m1, intM, sRet, aLen, eOwn, lenD, m_reduced, b_reduced, eIf, gcdM, m2, hq, eg, d1, d2, mTup, frD]
  rw [hn, hd, Int.sign_eq_one_of_pos hq, Int.natCast_ediv]
  constructor
  · rw [Int.one_mul]
  · rw [show ((q.natAbs : Nat) : Int) = q by omega]
theorem pplus_ok {n : Nat} {r s : Rat} {mu : Mu} (hr : Sm n r) (hs : Sm n s) (hn : n ≤ 4000) : m_plus [frD r, frD s] mu = some (.ok (.fz (frD (r + s))), mu) := by
  have hw : 2 ^ n ≤ 2 ^ 4000 := pw_le hn
  have hz : 2 ^ 4000 ≤ 2 ^ 100000 := pw_le (by decide)
  obtain ⟨r1, r2⟩ := hr
  obtain ⟨s1, s2⟩ := hs
  have hq : (r.den * s.den : Int).natAbs < 2 ^ 8000 := by
    rw [Int.natAbs_mul, Int.natAbs_natCast, Int.natAbs_natCast]
    exact Nat.lt_of_lt_of_le (mul_lt r2 s2) (pw_le (by omega))
  have nz : 0 < (r.den * s.den : Int) := Int.mul_pos (by have := r.den_pos; omega) (by have := s.den_pos; omega)
  have g := reduced_ok (p := r.num * s.den + s.num * r.den) (q := r.den * s.den) (mu := mu) nz (Nat.lt_of_lt_of_le hq (pw_le (by decide)))
  rw [divInt_add] at g
  have m1' := mulA_ok (i := r.num) (j := s.den) (by omega) (by rw [Int.natAbs_natCast]; omega)
  have m2' := mulA_ok (i := s.num) (j := r.den) (by omega) (by rw [Int.natAbs_natCast]; omega)
  have m3' := mulA_ok (i := (r.den : Int)) (j := s.den) (by rw [Int.natAbs_natCast]; omega) (by rw [Int.natAbs_natCast]; omega)
  show m_plus [.tup [.int r.num, .int r.den], .tup [.int s.num, .int s.den]] mu = _
  simp [fnM, sSeq, sNil, sMug, sWith, eBin, eIx, eVar, eC, Mi.M.bind, Mi.M.pure, Mi.M.of, Mi.M.no, slotD, ixD, atI0, atI1, atI2, Vl.d, addA, Mi.orM, addI, subI, muSet, ixN, sIf, bOf, gtM, ltM, geM, leM, cmpI, blD, sSet, modA, modI, eCall, aCons, aNil, m1, intM, sRet, aLen, eOwn, lenD, m_plus, b_plus, m1', m2', m3', g, atI20, atI21]
theorem ptimes_ok {n : Nat} {r s : Rat} {mu : Mu} (hr : Sm n r) (hs : Sm n s) (hn : n ≤ 4000) : m_times [frD r, frD s] mu = some (.ok (.fz (frD (r * s))), mu) := by
  have hw : 2 ^ n ≤ 2 ^ 4000 := pw_le hn
  have hz : 2 ^ 4000 ≤ 2 ^ 100000 := pw_le (by decide)
  obtain ⟨r1, r2⟩ := hr
  obtain ⟨s1, s2⟩ := hs
  have hq : (r.den * s.den : Int).natAbs < 2 ^ 8000 := by
    rw [Int.natAbs_mul, Int.natAbs_natCast, Int.natAbs_natCast]
    exact Nat.lt_of_lt_of_le (mul_lt r2 s2) (pw_le (by omega))
  have nz : 0 < (r.den * s.den : Int) := Int.mul_pos (by have := r.den_pos; omega) (by have := s.den_pos; omega)
  have g := reduced_ok (p := r.num * s.num) (q := r.den * s.den) (mu := mu) nz (Nat.lt_of_lt_of_le hq (pw_le (by decide)))
  rw [divInt_mul] at g
  have m1' := mulA_ok (i := r.num) (j := s.num) (by omega) (by omega)
  have m3' := mulA_ok (i := (r.den : Int)) (j := s.den) (by rw [Int.natAbs_natCast]; omega) (by rw [Int.natAbs_natCast]; omega)
  show m_times [.tup [.int r.num, .int r.den], .tup [.int s.num, .int s.den]] mu = _
  simp [fnM, sSeq, sNil, sMug, sWith, eBin, eIx, eVar, eC, Mi.M.bind, Mi.M.pure, Mi.M.of, Mi.M.no, slotD, ixD, atI0, atI1, atI2, Vl.d, addA, Mi.orM, addI, subI, muSet, ixN, sIf, bOf, gtM, ltM, geM, leM, cmpI, blD, sSet, modA, modI, eCall, aCons, aNil, m1, intM, sRet, aLen, eOwn, lenD, m_times, b_times, m1', m3', g, atI20, atI21]
/-! frames of the program -/
abbrev FrmD (g : Nat) (ts : List Int) : D := .ins 0 [.int g, .tup (ts.map .int)]
/-- what the program takes -/
structure Frm (g : Nat) (ts : List Int) : Prop where
  g4 : g ≤ 4
  len : g + 2 ≤ ts.length ∧ ts.length ≤ g + 11
  srt : Asc ts
  low : ∀ i, i < ts.length → 0 ≤ ts[i]! ∧ ts[i]! ≤ 1000000
  gap : ∀ j, j + g + 1 < ts.length → ts[j]! < ts[j + g + 1]!
theorem fits_ok {g k : Nat} {ts : List Int} {mu : Mu} (F : Frm g ts) (hk : k < ts.length) : m__knot_fits [.int g, .tup (ts.map .int), .int k] mu = some (.ok (.fz (.bl true)), mu) := by
  have e0 := get_int (ts := ts) (k := k) hk
  have b0 := F.low k hk
  have l := F.len
  have w : m_is_integer_within [.int ts[k]!, .int 0, .int 1000000] mu = some (.ok (.fz (.bl true)), mu) := by
    rw [within_ok, decide_eq_true b0.1, decide_eq_true b0.2]
    rfl
  have h10 : ¬ (10 + (g : Int) < k) := by omega
  have t1 : (if 0 < k then atI (ts.map D.int) ((k : Int) - 1) else some (.int 0)) = some (.int (if 0 < k then ts[k - 1]! else 0)) := by
    by_cases h : 0 < k
    · rw [if_pos h, if_pos h, show ((k : Int) - 1) = ((k - 1 : Nat) : Int) by omega]
      exact get_int (by omega)
    · rw [if_neg h, if_neg h]
  have t2 : ¬ k ≤ g → atI (ts.map D.int) ((k : Int) - g - 1) = some (.int ts[k - g - 1]!) ∧ ts[k - g - 1]! < ts[k]! := fun h => by
    refine ⟨?_, ?_⟩
    · rw [show ((k : Int) - g - 1) = ((k - g - 1 : Nat) : Int) by omega]
      exact get_int (by omega)
    · have := F.gap (k - g - 1) (by omega)
      rwa [show k - g - 1 + g + 1 = k by omega] at this
  have s1 : 0 < k → ¬ ts[k]! < ts[k - 1]! := fun h => by
    have := F.srt (k - 1) k (by omega) hk
    omega
  generalize ts[k]! = A at *
  generalize ts[k - 1]! = B at *
  generalize ts[k - g - 1]! = C at *
  by_cases h : 0 < k
  · rw [if_pos h, if_pos h] at t1
    have s1 := s1 h
    by_cases h2 : k ≤ g
    · simp [fnM, sSeq, sNil, sMug, sWith, eBin, eIx, eVar, eC, Mi.M.bind, Mi.M.pure, Mi.M.of, Mi.M.no, slotD, ixD, atI0, atI1, atI2, Vl.d, addA, Mi.orM, addI, subI, mulA, mulS, muSet, ixN, sIf, bOf, gtM, ltM, geM, leM, cmpI, blD, sSet, modA, modI, eCall, aCons, aNil, m1, intM, divA, divS, divI, sRet, aLen, eOwn, lenD, m__knot_fits, b__knot_fits, e0, w, bOr, bAnd, bNot, bTru, truD, h10, h, t1, s1, eOr, h2]
    · obtain ⟨t3, t4⟩ := t2 h2
      simp [fnM, sSeq, sNil, sMug, sWith, eBin, eIx, eVar, eC, Mi.M.bind, Mi.M.pure, Mi.M.of, Mi.M.no, slotD, ixD, atI0, atI1, atI2, Vl.d, addA, Mi.orM, addI, subI, mulA, mulS, muSet, ixN, sIf, bOf, gtM, ltM, geM, leM, cmpI, blD, sSet, modA, modI, eCall, aCons, aNil, m1, intM, divA, divS, divI, sRet, aLen, eOwn, lenD, m__knot_fits, b__knot_fits, e0, w, bOr, bAnd, bNot, bTru, truD, h10, h, t1, s1, eOr, h2, t3, t4]
  · have hk0 : k = 0 := by omega
    subst hk0
    have e0' : atI (ts.map D.int) 0 = some (.int A) := e0
    have h11 : ¬ (10 + (g : Int) < 0) := by omega
    simp [fnM, sSeq, sNil, sMug, sWith, eBin, eIx, eVar, eC, Mi.M.bind, Mi.M.pure, Mi.M.of, Mi.M.no, slotD, ixD, atI0, atI1, atI2, Vl.d, addA, Mi.orM, addI, subI, mulA, mulS, muSet, ixN, sIf, bOf, gtM, ltM, geM, leM, cmpI, blD, sSet, modA, modI, eCall, aCons, aNil, m1, intM, divA, divS, divI, sRet, aLen, eOwn, lenD, m__knot_fits, b__knot_fits, e0', w, bOr, bAnd, bNot, bTru, truD, h11, eOr]
end Ev
end
section
set_option Elab.async false
set_option linter.all false
set_option maxRecDepth 100000
set_option exponentiation.threshold 10000
open PySem PySem.Spec PyProof.Rows L2 Mi Go
namespace Ev
theorem fnM_nx {n : Nat} {body : SM} {ds : List D} {mu mu' : Mu} {rho0 rho' : List Slot} (h0 : ds.map Slot.va ++ List.replicate (n - ds.length) Slot.no = rho0) (h : body rho0 mu = some (.fl .nx rho', mu')) : fnM n body ds mu = some (.ok (.fz .non), mu') := by
  subst h0
  rw [fnM_seq, h]
theorem forR_ok {rg : List D → Option (Int × Nat)} {f : AM} {body : D → SM} {rho : List Slot} {mu mu' : Mu} {args : List D} {lo : Int} {n : Nat} (h : f rho mu = some (.ok args, mu')) (hd : rg args = some (lo, n)) : sForR rg f body rho mu = forL body (upI lo n) rho mu' := by
  unfold sForR sWith
  rw [h]
  simp only [hd]
theorem rng1_ok {n : Nat} (h : n ≤ 100000000) : rng1 [.int (n : Int)] = some ((0 : Int), n) := by
  show (if -1000000 ≤ (n : Int) ∧ (n : Int) ≤ 100000000 then some ((0 : Int), (n : Int).toNat) else none) = _
  rw [if_pos (by omega), Int.toNat_natCast]
theorem knots_ok {g : Nat} {ts : List Int} {mu : Mu} (F : Frm g ts) : m__check_knots [.int g, .tup (ts.map .int)] mu = some (.ok (.fz .non), mu) := by
  have g4 := F.g4
  have l := F.len
  have s1 : sIf (bOr (bNot (bTru (eCall (m2 (isiM (tbC 2))) (aCons (eVar 1) (aCons (eC (.ty "tuple")) aNil))))) (bOf (eBin ltM (eCall (m1 lenD) (aCons (eVar 1) aNil)) (eBin addA (eVar 0) (eC (.int 2)))))) sNever sNil [.va (.int g), .va (.tup (ts.map .int)), .no] mu = some (.fl .nx [.va (.int g), .va (.tup (ts.map .int)), .no], mu) := by
    have h1 : m2 (isiM (tbC 2)) [.tup (ts.map .int), .ty "tuple"] = some (.fz (.bl true)) := rfl
    have h2 : ¬ ((ts.length : Int) < (g : Int) + 2) := by omega
    simp [fnM, sSeq, sNil, sMug, sWith, eBin, eIx, eVar, eC, Mi.M.bind, Mi.M.pure, Mi.M.of, Mi.M.no, slotD, ixD, atI0, atI1, atI2, Vl.d, addA, Mi.orM, addI, subI, mulA, mulS, muSet, ixN, sIf, bOf, gtM, ltM, geM, leM, cmpI, blD, sSet, modA, modI, eCall, aCons, aNil, m1, intM, divA, divS, divI, sRet, aLen, eOwn, lenD, bOr, bNot, bTru, h1, truD, h2]
  have lp := forL_inv (body := sBody (fun d rho => some (rho.set 2 (.va d))) (sIf (bNot (bTru (eOwn m__knot_fits (aLen 3 (aCons (eVar 0) (aCons (eVar 1) (aCons (eVar 2) aNil))))))) sNever sNil)) (I := fun rho m => m = mu ∧ ∃ x, rho = [.va (.int g), .va (.tup (ts.map .int)), x]) (ds := upI 0 ts.length) (rho := [.va (.int g), .va (.tup (ts.map .int)), .no]) (mu := mu) (fun d hd rho m ⟨hm, x, hr⟩ => by
    subst hm hr
    rw [upI_map] at hd
    obtain ⟨k, hk, rfl⟩ := List.mem_map.mp hd
    have hk := List.mem_range.mp hk
    rw [Int.zero_add]
    have f := fits_ok (k := k) (mu := m) F hk
    refine ⟨_, m, ?_, rfl, .va (.int k), rfl⟩
    simp [fnM, sSeq, sNil, sMug, sWith, eBin, eIx, eVar, eC, Mi.M.bind, Mi.M.pure, Mi.M.of, Mi.M.no, slotD, ixD, atI0, atI1, atI2, Vl.d, addA, Mi.orM, addI, subI, mulA, mulS, muSet, ixN, sIf, bOf, gtM, ltM, geM, leM, cmpI, blD, sSet, modA, modI, eCall, aCons, aNil, m1, intM, divA, divS, divI, sRet, aLen, eOwn, lenD, sBody, bNot, bTru, truD, f]) ⟨rfl, _, rfl⟩
  obtain ⟨rho', mu', e, rfl, x, rfl⟩ := lp
  unfold m__check_knots b__check_knots
  refine fnM_nx (rho0 := [.va (.int g), .va (.tup (ts.map .int)), .no]) rfl ?_ (rho' := [.va (.int g), .va (.tup (ts.map .int)), x])
  rw [seq_nx s1, forR_ok (args := [.int ts.length]) (mu' := mu') (by simp [fnM, sSeq, sNil, sMug, sWith, eBin, eIx, eVar, eC, Mi.M.bind, Mi.M.pure, Mi.M.of, Mi.M.no, slotD, ixD, atI0, atI1, atI2, Vl.d, addA, Mi.orM, addI, subI, mulA, mulS, muSet, ixN, sIf, bOf, gtM, ltM, geM, leM, cmpI, blD, sSet, modA, modI, eCall, aCons, aNil, m1, intM, divA, divS, divI, sRet, aLen, eOwn, lenD]) (rng1_ok (by omega)), e]
theorem init_ok {g : Nat} {ts : List Int} {mu : Mu} (F : Frm g ts) : i_Frame [.int g, .tup (ts.map .int)] mu = some (.ok [.int g, .tup (ts.map .int)], mu) := by
  have g4 := F.g4
  have w : m_is_integer_within [.int g, .int 0, .int 4] mu = some (.ok (.fz (.bl true)), mu) := by
    rw [within_ok, decide_eq_true (by omega), decide_eq_true (by omega)]
    rfl
  have k := knots_ok (mu := mu) F
  unfold i_Frame initM b_Frame___init__
  simp [fnM, sSeq, sNil, sMug, sWith, eBin, eIx, eVar, eC, Mi.M.bind, Mi.M.pure, Mi.M.of, Mi.M.no, slotD, ixD, atI0, atI1, atI2, Vl.d, addA, Mi.orM, addI, subI, mulA, mulS, muSet, ixN, sIf, bOf, gtM, ltM, geM, leM, cmpI, blD, sSet, modA, modI, eCall, aCons, aNil, m1, intM, divA, divS, divI, sRet, aLen, eOwn, lenD, bNot, bTru, truD, w, sDrop, k, sFldI, owI]
theorem make_ok {g : Nat} {ts : List Int} {rho : List Slot} {f : AM} {mu mu' : Mu} (F : Frm g ts) (h : f rho mu = some (.ok [.int g, .tup (ts.map .int)], mu')) : eMake 0 (lenI 2 i_Frame) (aLen 2 f) rho mu = some (.ok (.fz (FrmD g ts)), mu') := by
  have k := init_ok (mu := mu') F
  simp [fnM, sSeq, sNil, sMug, sWith, eBin, eIx, eVar, eC, Mi.M.bind, Mi.M.pure, Mi.M.of, Mi.M.no, slotD, ixD, atI0, atI1, atI2, Vl.d, addA, Mi.orM, addI, subI, mulA, mulS, muSet, ixN, sIf, bOf, gtM, ltM, geM, leM, cmpI, blD, sSet, modA, modI, eCall, aCons, aNil, m1, intM, divA, divS, divI, sRet, aLen, eOwn, lenD, eMake, lenI, h, k]
theorem cframe_ok {g : Nat} {ts : List Int} {mu : Mu} : m_check_frame [FrmD g ts] mu = some (.ok (.fz .non), mu) := rfl
theorem phills_ok {g : Nat} {ts : List Int} {mu : Mu} (F : Frm g ts) : m_Frame_hills [FrmD g ts] mu = some (.ok (.fz (.int ((ts.length - g - 1 : Nat) : Int))), mu) := by
  have l := F.len
  have : ((ts.length - g - 1 : Nat) : Int) = (ts.length : Int) - g - 1 := by omega
  rw [this]
  simp [fnM, sSeq, sNil, sMug, sWith, eBin, eIx, eVar, eC, Mi.M.bind, Mi.M.pure, Mi.M.of, Mi.M.no, slotD, ixD, atI0, atI1, atI2, Vl.d, addA, Mi.orM, addI, subI, mulA, mulS, muSet, ixN, sIf, bOf, gtM, ltM, geM, leM, cmpI, blD, sSet, modA, modI, eCall, aCons, aNil, m1, intM, divA, divS, divI, sRet, aLen, eOwn, lenD, m_Frame_hills, b_Frame_hills, eUn, fldD]
theorem cplace_ok {x : Int} {mu : Mu} (h0 : 0 ≤ x) (h1 : x ≤ 1000000) : m_check_place [.int x] mu = some (.ok (.fz .non), mu) := by
  have w : m_is_integer_within [.int x, .int 0, .int 1000000] mu = some (.ok (.fz (.bl true)), mu) := by
    rw [within_ok, decide_eq_true h0, decide_eq_true h1]
    rfl
  simp [fnM, sSeq, sNil, sMug, sWith, eBin, eIx, eVar, eC, Mi.M.bind, Mi.M.pure, Mi.M.of, Mi.M.no, slotD, ixD, atI0, atI1, atI2, Vl.d, addA, Mi.orM, addI, subI, mulA, mulS, muSet, ixN, sIf, bOf, gtM, ltM, geM, leM, cmpI, blD, sSet, modA, modI, eCall, aCons, aNil, m1, intM, divA, divS, divI, sRet, aLen, eOwn, lenD, m_check_place, b_check_place, bNot, bTru, truD, w]
theorem made_ok {g : Nat} {ts : List Int} {mu : Mu} (F : Frm g ts) : m__law_made [.lst [.int g, .tup (ts.map .int)]] mu = some (.ok (.fz (FrmD g ts)), mu) := by
  have k := init_ok (mu := mu) F
  simp [fnM, sSeq, sNil, sMug, sWith, eBin, eIx, eVar, eC, Mi.M.bind, Mi.M.pure, Mi.M.of, Mi.M.no, slotD, ixD, atI0, atI1, atI2, Vl.d, addA, Mi.orM, addI, subI, mulA, mulS, muSet, ixN, sIf, bOf, gtM, ltM, geM, leM, cmpI, blD, sSet, modA, modI, eCall, aCons, aNil, m1, intM, divA, divS, divI, sRet, aLen, eOwn, lenD, m__law_made, b__law_made, eMake, lenI, atI20, atI21, k]
theorem lhills_ok {g : Nat} {ts : List Int} {mu : Mu} (F : Frm g ts) : m__law_hills [.lst [.int g, .tup (ts.map .int)]] mu = some (.ok (.fz (.int ((ts.length - g - 1 : Nat) : Int))), mu) := by
  have l := F.len
  have : ((ts.length - g - 1 : Nat) : Int) = (ts.length : Int) - g - 1 := by omega
  rw [this]
  simp [fnM, sSeq, sNil, sMug, sWith, eBin, eIx, eVar, eC, Mi.M.bind, Mi.M.pure, Mi.M.of, Mi.M.no, slotD, ixD, atI0, atI1, atI2, Vl.d, addA, Mi.orM, addI, subI, mulA, mulS, muSet, ixN, sIf, bOf, gtM, ltM, geM, leM, cmpI, blD, sSet, modA, modI, eCall, aCons, aNil, m1, intM, divA, divS, divI, sRet, aLen, eOwn, lenD, m__law_hills, b__law_hills, atI20, atI21]
end Ev
end
section
set_option Elab.async false
set_option linter.all false
set_option maxRecDepth 100000
set_option exponentiation.threshold 10000
open PySem PySem.Spec PyProof.Rows L2 Mi Go
namespace Ev
/-- a loop over numbers one behind another, by an invariant of the number -/
theorem forL_up {body : D → SM} {I : Nat → List Slot → Mu → Prop} : ∀ (n : Nat) (lo : Int) (j : Nat) {rho : List Slot} {mu : Mu}, (∀ i, i < n → ∀ rho mu, I (j + i) rho mu → ∃ rho' mu', body (.int (lo + i)) rho mu = some (.fl .nx rho', mu') ∧ I (j + i + 1) rho' mu') → I j rho mu → ∃ rho' mu', forL body (upI lo n) rho mu = some (.fl .nx rho', mu') ∧ I (j + n) rho' mu'
  | 0, lo, j, rho, mu, _, h => ⟨rho, mu, rfl, h⟩
  | n + 1, lo, j, rho, mu, hb, h => by
    obtain ⟨rho1, mu1, e1, h1⟩ := hb 0 (by omega) rho mu h
    obtain ⟨rho2, mu2, e2, h2⟩ := forL_up n (lo + 1) (j + 1) (rho := rho1) (mu := mu1) (fun i hi rho mu h => by
      have := hb (i + 1) (by omega) rho mu (by rwa [show j + (i + 1) = j + 1 + i by omega])
      rwa [show (lo + ((i + 1 : Nat) : Int)) = lo + 1 + (i : Int) by omega, show j + (i + 1) + 1 = j + 1 + i + 1 by omega] at this) h1
    refine ⟨rho2, mu2, ?_, by rwa [show j + (n + 1) = j + 1 + n by omega]⟩
    show (match body (.int lo) rho mu with
      | none => none
      | some (.fl .nx rho', m) => forL body (upI (lo + 1) n) rho' m
      | some (.fl .ct rho', m) => forL body (upI (lo + 1) n) rho' m
      | some (.fl .bk rho', m) => some (.fl .nx rho', m)
      | r => r) = _
    rw [show ((lo + ((0 : Nat) : Int))) = lo by omega] at e1
    rw [e1]
    exact e2
theorem ne_tints (ns ms : List Int) : neM (.tup (ns.map .int)) (.tup (ms.map .int)) = some (.fz (.bl (!decide (ns = ms)))) := by
  show (match eqSc true (.tup (ns.map D.int)) (.tup (ms.map D.int)) with
    | some z => some z
    | none => eqPy true (.tup (ns.map D.int)) (.tup (ms.map D.int))) = _
  have e : eqSc true (.tup (ns.map D.int)) (.tup (ms.map D.int)) = none := rfl
  rw [e]
  show eqPy true (.tup (ns.map D.int)) (.tup (ms.map D.int)) = _
  unfold eqPy
  have a1 : toPy (.tup (ns.map D.int)) = some (.tuple (ns.map PyData.int)) := by
    show (toPys (ns.map D.int)).map _ = _
    rw [toPys_ints]
    rfl
  have a2 : toPy (.tup (ms.map D.int)) = some (.tuple (ms.map PyData.int)) := by
    show (toPys (ms.map D.int)).map _ = _
    rw [toPys_ints]
    rfl
  have sh : ∀ ns : List Int, SeqAt.shaped (.tuple (ns.map PyData.int)) = true := shaped_ints
  rw [a1, a2]
  show (if (SeqAt.shaped (.tuple (ns.map PyData.int)) && SeqAt.shaped (.tuple (ms.map PyData.int))) = true then _ else _) = _
  rw [sh, sh, if_pos rfl]
  show some (Vl.fz (.bl (!PyData.eqvAll (ns.map PyData.int) (ms.map PyData.int)))) = _
  rw [eqv_ints]
theorem ne_fr (r s : Rat) : neM (frD r) (frD s) = some (.fz (.bl (!decide (r = s)))) := by
  have h := ne_tints [r.num, r.den] [s.num, s.den]
  have e : decide ([r.num, (r.den : Int)] = [s.num, (s.den : Int)]) = decide (r = s) := by
    congr 1
    refine propext ⟨fun z => ?_, fun z => by rw [z]⟩
    simp only [List.cons.injEq, and_true] at z
    exact Rat.ext z.1 (by omega)
  rw [e] at h
  exact h
theorem frD_zero : frD 0 = .tup [.int 0, .int 1] := rfl
theorem frD_one : frD 1 = .tup [.int 1, .int 1] := rfl
theorem flat_ok {ts : List Int} {k : Nat} {x : Int} {mu : Mu} (hs : Asc ts) (hk : k + 1 < ts.length) : m__flat_value [.tup (ts.map .int), .int k, .int x] mu = some (.ok (.fz (frD (hill ts x 1 0 k))), mu) := by
  have e0 := get_int (ts := ts) (k := k) (by omega)
  have e1 : atI (ts.map D.int) ((k : Int) + 1) = some (.int ts[k + 1]!) := by
    rw [show ((k : Int) + 1) = ((k + 1 : Nat) : Int) by omega]
    exact get_int hk
  have el := get_last (ts := ts) (by omega)
  have m1 := hs (k + 1) (ts.length - 1) (by omega) (by omega)
  unfold hill inB
  simp only [Int.mul_one]
  generalize ts[k]! = A at *
  generalize ts[k + 1]! = B at *
  generalize ts[ts.length - 1]! = L at *
  have hz : (if (if x = L then decide (A < x) && decide (x ≤ B) else decide (A ≤ x) && decide (x < B)) = true then (1 : Rat) else 0) = if (A ≤ x ∧ x < B) ∨ (A < x ∧ x = B ∧ B = L) then 1 else 0 := by
    by_cases h : x = L
    · simp only [if_pos h, Bool.and_eq_true, decide_eq_true_eq]
      by_cases h2 : A < x ∧ x ≤ B
      · rw [if_pos h2, if_pos (by omega)]
      · rw [if_neg h2, if_neg (by omega)]
    · simp only [if_neg h, Bool.and_eq_true, decide_eq_true_eq]
      by_cases h2 : A ≤ x ∧ x < B
      · rw [if_pos h2, if_pos (by omega)]
      · rw [if_neg h2, if_neg (by omega)]
  rw [hz]
  have c1 : ∀ rho : List Slot, rho = [.va (.tup (ts.map .int)), .va (.int k), .va (.int x), .va (.int A), .va (.int B)] → bOf (eChain leM ltM (eVar 3) (eVar 2) (eVar 4)) rho mu = some (.ok (decide (A ≤ x ∧ x < B)), mu) := fun rho hr => by
    subst hr
    by_cases h1 : A ≤ x <;> by_cases h2 : x < B <;> simp [fnM, sSeq, sNil, sMug, sWith, eBin, eIx, eVar, eC, Mi.M.bind, Mi.M.pure, Mi.M.of, Mi.M.no, slotD, ixD, atI0, atI1, atI2, Vl.d, addA, Mi.orM, addI, subI, mulA, mulS, muSet, ixN, sIf, bOf, gtM, ltM, geM, leM, cmpI, blD, sSet, modA, modI, eCall, aCons, aNil, m1, intM, divA, divS, divI, sRet, aLen, eOwn, lenD, eChain, h1, h2]
  have c2 : ∀ rho : List Slot, rho = [.va (.tup (ts.map .int)), .va (.int k), .va (.int x), .va (.int A), .va (.int B)] → bOf (eChain3 ltM eqM eqM (eVar 3) (eVar 2) (eVar 4) (eIx (eVar 0) (eUn negI (eC (.int 1))))) rho mu = some (.ok (decide (A < x ∧ x = B ∧ B = L)), mu) := fun rho hr => by
    subst hr
    have q1 := eq_int x B
    have q2 := eq_int B L
    by_cases h1 : A < x
    · by_cases h2 : x = B
      · rw [decide_eq_true h2] at q1
        by_cases h3 : B = L
        · rw [decide_eq_true h3] at q2
          rw [decide_eq_true ⟨h1, h2, h3⟩]
          clear h2 h3 m1 hz
          simp [fnM, sSeq, sNil, sMug, sWith, eBin, eIx, eVar, eC, Mi.M.bind, Mi.M.pure, Mi.M.of, Mi.M.no, slotD, ixD, atI0, atI1, atI2, Vl.d, addA, Mi.orM, addI, subI, mulA, mulS, muSet, ixN, sIf, bOf, gtM, ltM, geM, leM, cmpI, blD, sSet, modA, modI, eCall, aCons, aNil, m1, intM, divA, divS, divI, sRet, aLen, eOwn, lenD, eChain3, h1, q1, q2, eUn, negI, el]
        · rw [decide_eq_false h3] at q2
          rw [decide_eq_false fun z => h3 z.2.2]
          clear h2 h3 m1 hz
          simp [fnM, sSeq, sNil, sMug, sWith, eBin, eIx, eVar, eC, Mi.M.bind, Mi.M.pure, Mi.M.of, Mi.M.no, slotD, ixD, atI0, atI1, atI2, Vl.d, addA, Mi.orM, addI, subI, mulA, mulS, muSet, ixN, sIf, bOf, gtM, ltM, geM, leM, cmpI, blD, sSet, modA, modI, eCall, aCons, aNil, m1, intM, divA, divS, divI, sRet, aLen, eOwn, lenD, eChain3, h1, q1, q2, eUn, negI, el]
      · rw [decide_eq_false h2] at q1
        rw [decide_eq_false fun z => h2 z.2.1]
        clear h2 m1 hz
        simp [fnM, sSeq, sNil, sMug, sWith, eBin, eIx, eVar, eC, Mi.M.bind, Mi.M.pure, Mi.M.of, Mi.M.no, slotD, ixD, atI0, atI1, atI2, Vl.d, addA, Mi.orM, addI, subI, mulA, mulS, muSet, ixN, sIf, bOf, gtM, ltM, geM, leM, cmpI, blD, sSet, modA, modI, eCall, aCons, aNil, m1, intM, divA, divS, divI, sRet, aLen, eOwn, lenD, eChain3, h1, q1, eUn, negI, el]
    · rw [decide_eq_false fun z => h1 z.1]
      simp [fnM, sSeq, sNil, sMug, sWith, eBin, eIx, eVar, eC, Mi.M.bind, Mi.M.pure, Mi.M.of, Mi.M.no, slotD, ixD, atI0, atI1, atI2, Vl.d, addA, Mi.orM, addI, subI, mulA, mulS, muSet, ixN, sIf, bOf, gtM, ltM, geM, leM, cmpI, blD, sSet, modA, modI, eCall, aCons, aNil, m1, intM, divA, divS, divI, sRet, aLen, eOwn, lenD, eChain3, h1]
  have c1 := c1 _ rfl
  have c2 := c2 _ rfl
  generalize hP : bOf (eChain leM ltM (eVar 3) (eVar 2) (eVar 4)) = P at *
  generalize hQ : bOf (eChain3 ltM eqM eqM (eVar 3) (eVar 2) (eVar 4) (eIx (eVar 0) (eUn negI (eC (.int 1))))) = Q at *
  by_cases h1 : A ≤ x ∧ x < B
  · rw [decide_eq_true h1] at c1
    rw [if_pos (.inl h1)]
    unfold m__flat_value b__flat_value
    rw [hP, hQ]
    clear hz h1
    simp [fnM, sSeq, sNil, sMug, sWith, eBin, eIx, eVar, eC, Mi.M.bind, Mi.M.pure, Mi.M.of, Mi.M.no, slotD, ixD, atI0, atI1, atI2, Vl.d, addA, Mi.orM, addI, subI, mulA, mulS, muSet, ixN, sIf, bOf, gtM, ltM, geM, leM, cmpI, blD, sSet, modA, modI, eCall, aCons, aNil, m1, intM, divA, divS, divI, sRet, aLen, eOwn, lenD, sPar, e0, e1, eIf, bOr, c1, frD_one]
  · rw [decide_eq_false h1] at c1
    by_cases h2 : A < x ∧ x = B ∧ B = L
    · rw [decide_eq_true h2] at c2
      rw [if_pos (.inr h2)]
      unfold m__flat_value b__flat_value
      rw [hP, hQ]
      clear hz h1 h2
      simp [fnM, sSeq, sNil, sMug, sWith, eBin, eIx, eVar, eC, Mi.M.bind, Mi.M.pure, Mi.M.of, Mi.M.no, slotD, ixD, atI0, atI1, atI2, Vl.d, addA, Mi.orM, addI, subI, mulA, mulS, muSet, ixN, sIf, bOf, gtM, ltM, geM, leM, cmpI, blD, sSet, modA, modI, eCall, aCons, aNil, m1, intM, divA, divS, divI, sRet, aLen, eOwn, lenD, sPar, e0, e1, eIf, bOr, c1, c2, frD_one]
    · rw [decide_eq_false h2] at c2
      rw [if_neg (by omega)]
      unfold m__flat_value b__flat_value
      rw [hP, hQ]
      clear hz h1 h2
      simp [fnM, sSeq, sNil, sMug, sWith, eBin, eIx, eVar, eC, Mi.M.bind, Mi.M.pure, Mi.M.of, Mi.M.no, slotD, ixD, atI0, atI1, atI2, Vl.d, addA, Mi.orM, addI, subI, mulA, mulS, muSet, ixN, sIf, bOf, gtM, ltM, geM, leM, cmpI, blD, sSet, modA, modI, eCall, aCons, aNil, m1, intM, divA, divS, divI, sRet, aLen, eOwn, lenD, sPar, e0, e1, eIf, bOr, c1, c2, frD_zero]
theorem eif_t {t : BM} {f g : EM} {rho : List Slot} {mu mu1 : Mu} (h : t rho mu = some (.ok true, mu1)) : eIf t f g rho mu = f rho mu1 := by
  unfold eIf M.bind
  rw [h]
  rfl
theorem eif_f {t : BM} {f g : EM} {rho : List Slot} {mu mu1 : Mu} (h : t rho mu = some (.ok false, mu1)) : eIf t f g rho mu = g rho mu1 := by
  unfold eIf M.bind
  rw [h]
  rfl
theorem part_ok {t d : Int} {r : Rat} {mu : Mu} (ht : t.natAbs < 2 ^ 60) (hd : d.natAbs < 2 ^ 29) (hr : Sm 3900 r) (h : r ≠ 0 → 0 < d) : m__part [.int t, .int d, frD r] mu = some (.ok (.fz (frD (facR d t 1 * r))), mu) := by
  have n := ne_fr r 0
  rw [frD_zero] at n
  by_cases hz : r = 0
  · subst hz
    rw [Rat.mul_zero]
    unfold m__part b__part
    refine fnM_of (rho0 := [.va (.int t), .va (.int d), .va (frD 0)]) rfl ?_ (rho' := [.va (.int t), .va (.int d), .va (frD 0)])
    unfold sRet sWith
    rw [eif_f (test_ok (m := neM) (v := .fz (frD 0)) (w := .fz (.tup [.int 0, .int 1])) rfl rfl (b := false) (by rw [show (Vl.fz (frD 0)).d = frD 0 from rfl, show (Vl.fz (.tup [.int 0, .int 1])).d = .tup [.int 0, .int 1] from rfl, n]; rfl))]
    rfl
  · have h0 := h hz
    have sf := sm_fac (w := 1) hd (by decide) (by decide) ht
    have ef : facR d t 1 = Rat.divInt t d := by
      unfold facR
      rw [if_pos h0, Int.mul_one]
    have lo := reduced_ok (p := t) (q := d) (mu := mu) h0 (Nat.lt_of_lt_of_le hd (pw_le (by decide)))
    rw [← ef] at lo
    have tm := ptimes_ok (n := 3900) (mu := mu) (sf.up (by decide)) hr (by decide)
    rw [decide_eq_false hz] at n
    unfold m__part b__part
    refine fnM_of (rho0 := [.va (.int t), .va (.int d), .va (frD r)]) rfl ?_ (rho' := [.va (.int t), .va (.int d), .va (frD r)])
    unfold sRet sWith
    rw [eif_t (test_ok (m := neM) (v := .fz (frD r)) (w := .fz (.tup [.int 0, .int 1])) rfl rfl (b := true) (by rw [show (Vl.fz (frD r)).d = frD r from rfl, show (Vl.fz (.tup [.int 0, .int 1])).d = .tup [.int 0, .int 1] from rfl, n]; rfl))]
    rw [own_ok (n := 2) (args2 (own_ok (n := 2) (args2 (f := eVar 0) (g := eVar 1) (v := .fz (.int t)) (w := .fz (.int d)) rfl rfl) rfl lo) (g := eVar 2) (w := .fz (frD r)) rfl) rfl tm]
    rfl
theorem ret_ok {f : EM} {rho : List Slot} {mu mu' : Mu} {v : Vl} (h : f rho mu = some (.ok v, mu')) : sRet f rho mu = some (.fl (.rt (.fz v.d)) rho, mu') := by
  unfold sRet sWith
  rw [h]
/-- one hill by the two below it -/
theorem bent_ok {ks : List Int} {r s : Rat} {x : Int} {mu : Mu} (hn : 3 ≤ ks.length) (hk : ∀ i : Nat, i < ks.length → (ks[i]! : Int).natAbs < 2 ^ 28) (hx : x.natAbs < 2 ^ 58) (hr : Sm 3800 r) (hs : Sm 3800 s) (h0 : r ≠ 0 → ks[0]! < ks[ks.length - 2]!) (h1 : s ≠ 0 → ks[1]! < ks[ks.length - 1]!)
    (hL : Sm 4000 (facR (ks[ks.length - 2]! - ks[0]!) (x - ks[0]!) 1 * r)) (hR : Sm 4000 (facR (ks[ks.length - 1]! - ks[1]!) (ks[ks.length - 1]! - x) 1 * s)) :
    m__bent_value [.tup (ks.map .int), .lst [frD r, frD s], .int x] mu = some (.ok (.fz (frD (facR (ks[ks.length - 2]! - ks[0]!) (x - ks[0]!) 1 * r + facR (ks[ks.length - 1]! - ks[1]!) (ks[ks.length - 1]! - x) 1 * s))), mu) := by
  have e0 : atI (ks.map D.int) 0 = some (.int ks[0]!) := get_int (ts := ks) (k := 0) (by omega)
  have e1 : atI (ks.map D.int) 1 = some (.int ks[1]!) := get_int (ts := ks) (k := 1) (by omega)
  have el := get_last (ts := ks) (by omega)
  have el2 : atI (ks.map D.int) (-2) = some (.int ks[ks.length - 2]!) := by
    have h1 : ixN (ks.map D.int).length (-2) = some (ks.length - 2) := by
      unfold ixN
      rw [if_neg (by decide), List.length_map, if_pos (by omega)]
      congr 1
      omega
    unfold atI
    rw [h1]
    show (ks.map D.int)[ks.length - 2]? = _
    rw [List.getElem?_map, List.getElem?_eq_getElem (by omega), getElem!_pos ks (ks.length - 2) (by omega)]
    rfl
  have b0 := hk 0 (by omega)
  have b1 := hk 1 (by omega)
  have b2 := hk (ks.length - 2) (by omega)
  have b3 := hk (ks.length - 1) (by omega)
  generalize ks[0]! = A at *
  generalize ks[1]! = B at *
  generalize ks[ks.length - 2]! = C at *
  generalize ks[ks.length - 1]! = E at *
  have p1 := part_ok (t := x - A) (d := C - A) (r := r) (mu := mu) (by omega) (by omega) (hr.up (by decide)) (fun z => by have := h0 z; omega)
  have p2 := part_ok (t := E - x) (d := E - B) (r := s) (mu := mu) (by omega) (by omega) (hs.up (by decide)) (fun z => by have := h1 z; omega)
  have pl := pplus_ok (n := 4000) (mu := mu) hL hR (by decide)
  generalize hF : facR (C - A) (x - A) 1 * r = P at *
  generalize hG : facR (E - B) (E - x) 1 * s = Q at *
  generalize frD r = R' at *
  generalize frD s = S' at *
  generalize frD P = P' at *
  generalize frD Q = Q' at *
  simp [fnM, sSeq, sNil, sMug, sWith, eBin, eIx, eVar, eC, Mi.M.bind, Mi.M.pure, Mi.M.of, Mi.M.no, slotD, ixD, atI0, atI1, atI2, Vl.d, addA, Mi.orM, addI, subI, mulA, mulS, muSet, ixN, sIf, bOf, gtM, ltM, geM, leM, cmpI, blD, sSet, modA, modI, eCall, aCons, aNil, m1, intM, divA, divS, divI, sRet, aLen, eOwn, lenD, m__bent_value, b__bent_value, e0, e1, el, el2, eUn, negI, atI20, atI21, p1, p2, pl]
end Ev
end
section
set_option Elab.async false
set_option linter.all false
set_option maxRecDepth 100000
set_option exponentiation.threshold 10000
open PySem PySem.Spec PyProof.Rows L2 Mi Go
namespace Ev
/-- a comprehension over numbers one behind another that looks alone -/
theorem lcU_ok {put : D → List Slot → Option (List Slot)} {t : BM} {f : EM} {rho : List Slot} {mu : Mu} {g : Nat → D} {n : Nat} (h : ∀ k, k < n → ∃ rho' v, put (.int k) rho = some rho' ∧ t rho' mu = some (.ok true, mu) ∧ f rho' mu = some (.ok v, mu) ∧ v.d = g k) (hn : n ≤ 100000) : lcL put t f rho (upI 0 n) [] mu = some ((List.range n).map g, mu) := by
  have lk := lcL_look (put := put) (t := t) (f := f) (rho := rho) (mu := mu) (p := fun _ => true) (g := fun d => match d with
    | .int j => g j.toNat
    | _ => .non) (ds := upI 0 n) (acc := []) (fun d hd => by
      rw [upI_map] at hd
      obtain ⟨k, hk, rfl⟩ := List.mem_map.mp hd
      have hk := List.mem_range.mp hk
      rw [Int.zero_add]
      obtain ⟨rho', v, h1, h2, h3, h4⟩ := h k hk
      exact ⟨rho', h1, h2, fun _ => ⟨v, h3, h4⟩⟩) (by
    rw [upI_len]
    show 0 + n ≤ _
    omega)
  rw [lk, upI_map, List.nil_append, List.filter_eq_self.mpr (fun _ _ => rfl), List.map_map]
  refine congrArg (fun z => some (z, mu)) (List.map_congr_left fun i _ => ?_)
  show g ((0 : Int) + (i : Nat)).toNat = _
  rw [Int.zero_add]
  rfl
theorem cut_two {α : Type} {f : Nat → α} {m k : Nat} (h : k + 2 ≤ m) : Mi.cutD ((List.range m).map f) (some (k : Int)) (some ((k : Int) + 2)) = [f k, f (k + 1)] := by
  rw [show ((k : Int) + 2) = ((k + 2 : Nat) : Int) by omega]
  unfold Mi.cutD
  rw [HT.sIx_nat, HT.sIx_nat, List.length_map, List.length_range, Nat.min_eq_left (show k ≤ m by omega), Nat.min_eq_left h, show k + 2 - k = 2 by omega]
  apply List.ext_getElem
  · simp only [List.length_take, List.length_drop, List.length_map, List.length_range, List.length_cons, List.length_nil]
    omega
  · intro i h1 h2
    simp only [List.getElem_take, List.getElem_drop, List.getElem_map, List.getElem_range]
    have : i < 2 := h2
    match i, this with
    | 0, _ => rfl
    | 1, _ => rfl
abbrev rva (g : Nat) (ts : List Int) (x : Int) (fo : D) (a b c : Slot) : List Slot := [.va (.int g), .va (.tup (ts.map .int)), .va (.int x), .va fo, a, b, c]
abbrev rowD (ts : List Int) (x : Int) (d : Nat) : List D := (List.range (ts.length - d - 1)).map fun k => frD (hill ts x 1 d k)
theorem frm_bd {g : Nat} {ts : List Int} (F : Frm g ts) : ∀ i : Nat, (ts[i]! : Int).natAbs < 2 ^ 28 := fun i => by
  by_cases h : i < ts.length
  · have := F.low i h
    omega
  · rw [getElem!_neg ts i h]
    decide
theorem widths {ts : List Int} {g : Nat} {x : Int} {i : Nat} {mu : Mu} {a b c : Slot} (F : Frm g ts) (hx0 : 0 ≤ x) (hx : x ≤ 1000000) (hi : i < g) :
    ∃ a' c', sBody (fun d rho => some (rho.set 4 (.va d))) (sSet 3 (eLcR rng1 (aCons (eBin subI (eCall (m1 lenD) (aCons (eVar 3) aNil)) (eC (.int 1))) aNil) (fun d rho => some (rho.set 6 (.va d))) [6] bYes (eOwn m__bent_value (aLen 3 (aCons (eSl (eVar 1) (oSome (eVar 6)) (oSome (eBin addA (eBin addA (eVar 6) (eVar 4)) (eC (.int 1))))) (aCons (eSl (eVar 3) (oSome (eVar 6)) (oSome (eBin addA (eVar 6) (eC (.int 2))))) (aCons (eVar 2) aNil))))))) (.int (2 + (i : Int)))
      (rva g ts x (.lst (rowD ts x i)) a b c) mu = some (.fl .nx (rva g ts x (.lst (rowD ts x (i + 1))) a' b c'), mu) := by
  have l := F.len
  have g4 := F.g4
  have bd := frm_bd F
  have sm := fun k => sm_hill (ts := ts) (p := x) (q := 1) (by decide) (by decide) (by omega) bd i k
  have hbi := hb_le i (by omega)
  refine ⟨.va (.int (2 + (i : Int))), c, ?_⟩
  show sSet 3 _ (rva g ts x (.lst (rowD ts x i)) (.va (.int (2 + (i : Int)))) b c) mu = _
  have a1 : aCons (eBin subI (eCall (m1 lenD) (aCons (eVar 3) aNil)) (eC (.int 1))) aNil (rva g ts x (.lst (rowD ts x i)) (.va (.int (2 + (i : Int)))) b c) mu = some (.ok [.int ((ts.length - (i + 1) - 1 : Nat) : Int)], mu) := by
    have : ((ts.length - (i + 1) - 1 : Nat) : Int) = ((ts.length - i - 1 : Nat) : Int) - 1 := by omega
    rw [this]
    simp [fnM, sSeq, sNil, sMug, sWith, eBin, eIx, eVar, eC, Mi.M.bind, Mi.M.pure, Mi.M.of, Mi.M.no, slotD, ixD, atI0, atI1, atI2, Vl.d, addA, Mi.orM, addI, subI, mulA, mulS, muSet, ixN, sIf, bOf, gtM, ltM, geM, leM, cmpI, blD, sSet, modA, modI, eCall, aCons, aNil, m1, intM, divA, divS, divI, sRet, aLen, eOwn, lenD, rva, rowD]
  have lk := lcU_ok (put := fun d rho => some (rho.set 6 (.va d))) (t := bYes) (f := eOwn m__bent_value (aLen 3 (aCons (eSl (eVar 1) (oSome (eVar 6)) (oSome (eBin addA (eBin addA (eVar 6) (eVar 4)) (eC (.int 1))))) (aCons (eSl (eVar 3) (oSome (eVar 6)) (oSome (eBin addA (eVar 6) (eC (.int 2))))) (aCons (eVar 2) aNil))))) (rho := wipeR (rva g ts x (.lst (rowD ts x i)) (.va (.int (2 + (i : Int)))) b c) [6]) (mu := mu) (g := fun k => frD (hill ts x 1 (i + 1) k)) (n := ts.length - (i + 1) - 1) (fun k hk => by
    refine ⟨_, .fz (frD (hill ts x 1 (i + 1) k)), rfl, rfl, ?_, rfl⟩
    have c1 := cut_mid (ts := ts) (a := k) (b := k + i + 3) (by omega) (by omega)
    have ek : ((k + i + 3 : Nat) : Int) = (k : Int) + (2 + (i : Int)) + 1 := by omega
    rw [ek] at c1
    have c2 := cut_two (f := fun k => frD (hill ts x 1 i k)) (m := ts.length - i - 1) (k := k) (by omega)
    generalize hks : (ts.take (k + i + 3)).drop k = ks at c1
    have kl : ks.length = i + 3 := by
      rw [← hks, List.length_drop, List.length_take]
      omega
    have kg : ∀ j : Nat, j < i + 3 → ks[j]! = ts[k + j]! := fun j hj => by
      rw [getElem!_pos ks j (by omega), getElem!_pos ts (k + j) (by omega)]
      subst hks
      rw [List.getElem_drop, List.getElem_take]
    have k0 := kg 0 (by omega)
    have k1 := kg 1 (by omega)
    have k2 := kg (i + 1) (by omega)
    have k3 := kg (i + 2) (by omega)
    rw [Nat.add_zero] at k0
    have q0 := bd k
    have q1 := bd (k + 1)
    have q2 := bd (k + (i + 1))
    have q3 := bd (k + (i + 2))
    have f1 := sm_fac (d := ts[k + (i + 1)]! - ts[k]!) (t := x - ts[k]!) (w := 1) (by omega) (by decide) (by decide) (by omega)
    have f2 := sm_fac (d := ts[k + (i + 2)]! - ts[k + 1]!) (t := ts[k + (i + 2)]! - x) (w := 1) (by omega) (by decide) (by decide) (by omega)
    have be := bent_ok (ks := ks) (r := hill ts x 1 i k) (s := hill ts x 1 i (k + 1)) (x := x) (mu := mu) (by omega) (fun j hj => by rw [kg j (by omega)]; exact bd _) (by omega) ((sm k).up (by omega)) ((sm (k + 1)).up (by omega))
      (fun z => by
        have := (supp F.srt (q := 1) (by decide) i k (by omega) z).lt
        rw [kl, k0, show i + 3 - 2 = i + 1 by omega, k2]
        exact this)
      (fun z => by
        have := (supp F.srt (q := 1) (by decide) i (k + 1) (by omega) z).lt
        rw [kl, k1, show i + 3 - 1 = i + 2 by omega, k3, show k + (i + 2) = k + 1 + i + 1 by omega]
        exact this)
      (by
        rw [kl, k0, show i + 3 - 2 = i + 1 by omega, k2]
        exact (sm_mul f1 (sm k)).up (by omega))
      (by
        rw [kl, k1, show i + 3 - 1 = i + 2 by omega, k3]
        exact (sm_mul f2 (sm (k + 1))).up (by omega))
    rw [kl, k0, k1, show i + 3 - 2 = i + 1 by omega, show i + 3 - 1 = i + 2 by omega, k2, k3] at be
    have eh : facR (ts[k + (i + 1)]! - ts[k]!) (x - ts[k]!) 1 * hill ts x 1 i k + facR (ts[k + (i + 2)]! - ts[k + 1]!) (ts[k + (i + 2)]! - x) 1 * hill ts x 1 i (k + 1) = hill ts x 1 (i + 1) k := by
      rw [hill_S, Int.mul_one, Int.mul_one]
      rfl
    rw [eh] at be
    generalize frD (hill ts x 1 (i + 1) k) = V at *
    have e2 : slD (.tup (ts.map .int)) (some (k : Int)) (some ((k : Int) + (2 + (i : Int)) + 1)) = some (.fz (.tup (ks.map .int))) := by
      show some (Vl.fz (.tup (cutD (ts.map D.int) _ _))) = _
      rw [c1]
    have e3 : slD (.lst (rowD ts x i)) (some (k : Int)) (some ((k : Int) + 2)) = some (.fr [frD (hill ts x 1 i k), frD (hill ts x 1 i (k + 1))]) := by
      show some (Vl.fr (cutD (rowD ts x i) _ _)) = _
      rw [c2]
    generalize rowD ts x i = RW at *
    generalize frD (hill ts x 1 i k) = V1 at *
    generalize frD (hill ts x 1 i (k + 1)) = V2 at *
    clear c1 c2 kg hks
    simp [fnM, sSeq, sNil, sMug, sWith, eBin, eIx, eVar, eC, Mi.M.bind, Mi.M.pure, Mi.M.of, Mi.M.no, slotD, ixD, atI0, atI1, atI2, Vl.d, addA, Mi.orM, addI, subI, mulA, mulS, muSet, ixN, sIf, bOf, gtM, ltM, geM, leM, cmpI, blD, sSet, modA, modI, eCall, aCons, aNil, m1, intM, divA, divS, divI, sRet, aLen, eOwn, lenD, rva, wipeR, eSl, oSome, Mi.intD, e2, e3, be]) (by omega)
  have r := lcR_ok (rg := rng1) (vs := [6]) a1 (lo := 0) (n := ts.length - (i + 1) - 1) (rng1_ok (by omega)) lk
  rw [set_ok r]
  rfl
end Ev
end
section
set_option Elab.async false
set_option linter.all false
set_option maxRecDepth 100000
set_option exponentiation.threshold 10000
open PySem PySem.Spec PyProof.Rows L2 Mi Go
namespace Ev
theorem over_ok {ts : List Int} {g : Nat} {x : Int} {mu : Mu} (F : Frm g ts) (hx0 : 0 ≤ x) (hx : x ≤ 1000000) : m__values_over [.int g, .tup (ts.map .int), .int x] mu = some (.ok (.fz (.lst (rowD ts x g))), mu) := by
  have l := F.len
  have g4 := F.g4
  have a2 : aCons (eBin subI (eCall (m1 lenD) (aCons (eVar 1) aNil)) (eC (.int 1))) aNil [.va (.int g), .va (.tup (ts.map .int)), .va (.int x), .no, .no, .no, .no] mu = some (.ok [.int ((ts.length - 0 - 1 : Nat) : Int)], mu) := by
    have : ((ts.length - 0 - 1 : Nat) : Int) = (ts.length : Int) - 1 := by omega
    rw [this]
    simp [fnM, sSeq, sNil, sMug, sWith, eBin, eIx, eVar, eC, Mi.M.bind, Mi.M.pure, Mi.M.of, Mi.M.no, slotD, ixD, atI0, atI1, atI2, Vl.d, addA, Mi.orM, addI, subI, mulA, mulS, muSet, ixN, sIf, bOf, gtM, ltM, geM, leM, cmpI, blD, sSet, modA, modI, eCall, aCons, aNil, m1, intM, divA, divS, divI, sRet, aLen, eOwn, lenD]
  have lk := lcU_ok (put := fun d rho => some (rho.set 5 (.va d))) (t := bYes) (f := eOwn m__flat_value (aLen 3 (aCons (eVar 1) (aCons (eVar 5) (aCons (eVar 2) aNil))))) (rho := wipeR [.va (.int g), .va (.tup (ts.map .int)), .va (.int x), .no, .no, .no, .no] [5]) (mu := mu) (g := fun k => frD (hill ts x 1 0 k)) (n := ts.length - 0 - 1) (fun k hk => by
    refine ⟨_, .fz (frD (hill ts x 1 0 k)), rfl, rfl, ?_, rfl⟩
    have f := flat_ok (k := k) (x := x) (mu := mu) F.srt (by omega)
    generalize frD (hill ts x 1 0 k) = V at *
    simp [fnM, sSeq, sNil, sMug, sWith, eBin, eIx, eVar, eC, Mi.M.bind, Mi.M.pure, Mi.M.of, Mi.M.no, slotD, ixD, atI0, atI1, atI2, Vl.d, addA, Mi.orM, addI, subI, mulA, mulS, muSet, ixN, sIf, bOf, gtM, ltM, geM, leM, cmpI, blD, sSet, modA, modI, eCall, aCons, aNil, m1, intM, divA, divS, divI, sRet, aLen, eOwn, lenD, wipeR, f]) (by omega)
  have s2 := set_ok (i := 3) (lcR_ok (rg := rng1) (vs := [5]) a2 (lo := 0) (n := ts.length - 0 - 1) (rng1_ok (by omega)) lk)
  obtain ⟨rho', mu', e, rfl, a, b, c, rfl⟩ := forL_up (body := sBody (fun d rho => some (rho.set 4 (.va d))) (sSet 3 (eLcR rng1 (aCons (eBin subI (eCall (m1 lenD) (aCons (eVar 3) aNil)) (eC (.int 1))) aNil) (fun d rho => some (rho.set 6 (.va d))) [6] bYes (eOwn m__bent_value (aLen 3 (aCons (eSl (eVar 1) (oSome (eVar 6)) (oSome (eBin addA (eBin addA (eVar 6) (eVar 4)) (eC (.int 1))))) (aCons (eSl (eVar 3) (oSome (eVar 6)) (oSome (eBin addA (eVar 6) (eC (.int 2))))) (aCons (eVar 2) aNil)))))))) (I := fun i rho m => m = mu ∧ ∃ a b c, rho = rva g ts x (.lst (rowD ts x i)) a b c) g 2 0 (rho := rva g ts x (.lst (rowD ts x 0)) .no .no .no) (mu := mu) (fun i hi rho m ⟨hm, a, b, c, hr⟩ => by
      subst hm hr
      rw [Nat.zero_add]
      obtain ⟨a', c', e⟩ := widths (mu := m) (a := a) (b := b) (c := c) F hx0 hx hi
      exact ⟨_, _, e, rfl, a', b, c', rfl⟩) ⟨rfl, .no, .no, .no, rfl⟩
  rw [Nat.zero_add] at e
  have rg : rng2 [.int 2, .int ((g : Int) + 2)] = some ((2 : Int), g) := by
    have e : ((g : Int) + 2 - 2).toNat = g := by omega
    unfold rng2
    simp only
    rw [if_pos (by omega), e]
  have a3 : aCons (eC (.int 2)) (aCons (eBin addA (eVar 0) (eC (.int 2))) aNil) (rva g ts x (.lst (rowD ts x 0)) .no .no .no) mu' = some (.ok [.int 2, .int ((g : Int) + 2)], mu') := by
    simp [fnM, sSeq, sNil, sMug, sWith, eBin, eIx, eVar, eC, Mi.M.bind, Mi.M.pure, Mi.M.of, Mi.M.no, slotD, ixD, atI0, atI1, atI2, Vl.d, addA, Mi.orM, addI, subI, mulA, mulS, muSet, ixN, sIf, bOf, gtM, ltM, geM, leM, cmpI, blD, sSet, modA, modI, eCall, aCons, aNil, m1, intM, divA, divS, divI, sRet, aLen, eOwn, lenD, rva]
  unfold m__values_over b__values_over
  refine fnM_of (rho0 := [.va (.int g), .va (.tup (ts.map .int)), .va (.int x), .no, .no, .no, .no]) rfl ?_ (rho' := rva g ts x (.lst (rowD ts x g)) a b c)
  rw [seq_nx s2]
  show sSeq _ _ (rva g ts x (.lst (rowD ts x 0)) .no .no .no) mu' = _
  rw [seq_nx (rho' := rva g ts x (.lst (rowD ts x g)) a b c) (mu' := mu') ((forR_ok a3 rg).trans e)]
  exact ret_ok (v := .fz (.lst (rowD ts x g))) rfl
theorem values_ok {ts : List Int} {g : Nat} {x : Int} {mu : Mu} (F : Frm g ts) (hx0 : 0 ≤ x) (hx : x ≤ 1000000) : m_values_at [FrmD g ts, .int x] mu = some (.ok (.fz (.lst (rowD ts x g))), mu) := by
  have v := over_ok (mu := mu) F hx0 hx
  generalize rowD ts x g = RW at *
  simp [fnM, sSeq, sNil, sMug, sWith, eBin, eIx, eVar, eC, Mi.M.bind, Mi.M.pure, Mi.M.of, Mi.M.no, slotD, ixD, atI0, atI1, atI2, Vl.d, addA, Mi.orM, addI, subI, mulA, mulS, muSet, ixN, sIf, bOf, gtM, ltM, geM, leM, cmpI, blD, sSet, modA, modI, eCall, aCons, aNil, m1, intM, divA, divS, divI, sRet, aLen, eOwn, lenD, m_values_at, b_values_at, eProp, insC, m_Frame_knots, b_Frame_knots, m_Frame_degree, b_Frame_degree, eUn, fldD, v]
end Ev
end
section
set_option Elab.async false
set_option linter.all false
set_option maxRecDepth 100000
set_option exponentiation.threshold 10000
open PySem PySem.Spec PyProof.Rows L2 Mi Go
namespace Ev
abbrev pyF (r : Rat) : PyData := .tuple [.int r.num, .int r.den]
theorem toPy_fr (r : Rat) : toPy (frD r) = some (pyF r) := rfl
theorem toPys_fr : ∀ rs : List Rat, toPys (rs.map frD) = some (rs.map pyF)
  | [] => rfl
  | r :: rs => by
    show (match toPy (frD r), toPys (rs.map frD) with
      | some p, some ps => some (p :: ps)
      | _, _ => none) = _
    rw [toPys_fr rs, toPy_fr]
    rfl
theorem log_sm {i : Int} (h : i.natAbs < 2 ^ 1900) : i.natAbs.log2 < 1920 := by
  have := log_of h (by decide)
  omega
theorem shown_int {i : Int} (h : i.natAbs < 2 ^ 1900) : (PyData.shown (.int i)).length ≤ 1921 := int_text_len_1921 (log_sm h)
theorem shown_fr {r : Rat} (h : Sm 1900 r) : (PyData.shown (pyF r)).length ≤ 3849 := by
  have h1 := shown_int h.num
  have h2 := shown_int (i := (r.den : Int)) (by rw [Int.natAbs_natCast]; exact h.den)
  have h3 := tupleText_len_le [PyData.shown (.int r.num), PyData.shown (.int (r.den : Int))]
  simp only [List.map_cons, List.map_nil, List.sum_cons, List.sum_nil, List.length_cons, List.length_nil] at h3
  show (tupleText [PyData.shown (.int r.num), PyData.shown (.int (r.den : Int))]).length ≤ _
  omega
theorem showable_fr {r : Rat} (h : Sm 1900 r) : (pyF r).showable = true := by
  have h1 := log_sm h.num
  have h2 := log_sm (i := (r.den : Int)) (by rw [Int.natAbs_natCast]; exact h.den)
  show (decide (r.num.natAbs.log2 < 1920) && (decide ((r.den : Int).natAbs.log2 < 1920) && true)) = true
  rw [decide_eq_true h1, decide_eq_true h2]
  rfl
theorem showableA : ∀ {rs : List Rat}, (∀ r ∈ rs, Sm 1900 r) → PyData.showableAll (rs.map pyF) = true
  | [], _ => rfl
  | r :: rs, h => by
    show ((pyF r).showable && PyData.showableAll (rs.map pyF)) = true
    rw [showable_fr (h r (List.mem_cons_self ..)), showableA fun s hs => h s (List.mem_cons_of_mem _ hs)]
    rfl
theorem noDictA : ∀ rs : List Rat, PyData.hasDictAll (rs.map pyF) = false
  | [] => rfl
  | r :: rs => by
    show (false || PyData.hasDictAll (rs.map pyF)) = false
    rw [noDictA rs]
    rfl
theorem depthA : ∀ rs : List Rat, PyData.depthAll (rs.map pyF) ≤ 3
  | [] => by simp [PyData.depthAll]
  | r :: rs => by
    have := depthA rs
    have e : PyData.depth (pyF r) ≤ 2 := by simp [PyData.depth, PyData.depthAll]
    simp only [List.map_cons, PyData.depthAll]
    omega
theorem sumA : ∀ {rs : List Rat}, (∀ r ∈ rs, Sm 1900 r) → ((PyData.shownAll (rs.map pyF)).map (·.length)).sum ≤ 3849 * rs.length ∧ (PyData.shownAll (rs.map pyF)).length = rs.length
  | [], _ => ⟨Nat.le_refl _, rfl⟩
  | r :: rs, h => by
    obtain ⟨a, b⟩ := sumA (rs := rs) fun s hs => h s (List.mem_cons_of_mem _ hs)
    have c := shown_fr (h r (List.mem_cons_self ..))
    have e : PyData.shownAll ((r :: rs).map pyF) = PyData.shown (pyF r) :: PyData.shownAll (rs.map pyF) := rfl
    rw [e]
    simp only [List.map_cons, List.sum_cons, List.length_cons]
    omega
theorem repr_list {rs : List Rat} (h : ∀ r ∈ rs, Sm 1900 r) (hl : rs.length ≤ 2000) : ∃ s, reprM (.lst (rs.map frD)) = some (.fz (.str s)) := by
  have e : toPy (.lst (rs.map frD)) = some (.list (rs.map pyF)) := by
    show (toPys (rs.map frD)).map _ = _
    rw [toPys_fr]
    rfl
  obtain ⟨a, b⟩ := sumA h
  have z : (PyData.shown (.list (rs.map pyF))).length ≤ 10000000 := by
    have h3 := listText_len_le (PyData.shownAll (rs.map pyF))
    show (listText (PyData.shownAll (rs.map pyF))).length ≤ _
    omega
  have d : PyData.depth (.list (rs.map pyF)) ≤ 40 := by
    have := depthA rs
    simp only [PyData.depth]
    omega
  refine ⟨PyData.shown (.list (rs.map pyF)), ?_⟩
  show reprM.go (.lst (rs.map frD)) = _
  unfold reprM.go
  rw [e]
  have c : (PyData.showable (.list (rs.map pyF)) && !PyData.hasDict (.list (rs.map pyF)) && decide (PyData.depth (.list (rs.map pyF)) ≤ 40) && decide ((PyData.shown (.list (rs.map pyF))).length ≤ 10000000)) = true := by
    rw [decide_eq_true z, decide_eq_true d]
    show (PyData.showableAll (rs.map pyF) && !PyData.hasDictAll (rs.map pyF) && true && true) = true
    rw [showableA h, noDictA]
    rfl
  show (if (PyData.showable (.list (rs.map pyF)) && !PyData.hasDict (.list (rs.map pyF)) && decide (PyData.depth (.list (rs.map pyF)) ≤ 40) && decide ((PyData.shown (.list (rs.map pyF))).length ≤ 10000000)) = true then _ else _) = _
  rw [if_pos c]
theorem repr_fr {r : Rat} (h : Sm 1900 r) : ∃ s, reprM (frD r) = some (.fz (.str s)) := by
  have z : (PyData.shown (pyF r)).length ≤ 10000000 := by
    have := shown_fr h
    omega
  refine ⟨PyData.shown (pyF r), ?_⟩
  show reprM.go (frD r) = _
  unfold reprM.go
  rw [toPy_fr]
  have c : (PyData.showable (pyF r) && !PyData.hasDict (pyF r) && decide (PyData.depth (pyF r) ≤ 40) && decide ((PyData.shown (pyF r)).length ≤ 10000000)) = true := by
    rw [decide_eq_true z, showable_fr h]
    rfl
  show (if (PyData.showable (pyF r) && !PyData.hasDict (pyF r) && decide (PyData.depth (pyF r) ≤ 40) && decide ((PyData.shown (pyF r)).length ≤ 10000000)) = true then _ else _) = _
  rw [if_pos c]
theorem ne_str (s t : Str) : neM (.str s) (.str t) = some (.fz (.bl (!decide (s = t)))) := by
  show (match eqSc true (.str s) (.str t) with
    | some z => some z
    | none => eqPy true (.str s) (.str t)) = _
  have e : eqSc true (.str s) (.str t) = some (.fz (.bl (!decide (V.str s = V.str t)))) := rfl
  rw [e]
  show some (Vl.fz (.bl (!decide (V.str s = V.str t)))) = _
  congr 4
  by_cases h : s = t <;> simp [h]
end Ev
end
section
set_option Elab.async false
set_option linter.all false
set_option maxRecDepth 100000
set_option exponentiation.threshold 10000
open PySem PySem.Spec PyProof.Rows L2 Mi Go
namespace Ev
/-! ### fractions over a common bottom -/
structure Dz (C n : Nat) (r : Rat) : Prop where
  pos : 0 < C
  ex : ∃ z : Int, z.natAbs < 2 ^ n ∧ r = Rat.divInt z C
theorem Dz.up {C m n : Nat} {r : Rat} (h : Dz C m r) (hmn : m ≤ n) : Dz C n r := ⟨h.pos, let ⟨z, h1, h2⟩ := h.ex; ⟨z, Nat.lt_of_lt_of_le h1 (pw_le hmn), h2⟩⟩
theorem Dz.zero {C n : Nat} (h : 0 < C) : Dz C n 0 := ⟨h, 0, by simpa using Nat.pow_pos (n := n) (show 0 < 2 by decide), by rw [Rat.zero_divInt]⟩
theorem Dz.add {C n : Nat} {r s : Rat} (h1 : Dz C n r) (h2 : Dz C n s) : Dz C (n + 1) (r + s) := by
  obtain ⟨z, a1, rfl⟩ := h1.ex
  obtain ⟨w, a2, rfl⟩ := h2.ex
  have c0 : (C : Int) ≠ 0 := by have := h1.pos; omega
  refine ⟨h1.pos, z + w, ?_, ?_⟩
  · have := Int.natAbs_add_le z w
    rw [Nat.pow_succ]
    omega
  · rw [Rat.divInt_add_divInt _ _ c0 c0, ← Int.add_mul, Rat.divInt_mul_right c0]
theorem Dz.mul {C E m n : Nat} {r s : Rat} (h1 : Dz C m r) (h2 : Dz E n s) : Dz (C * E) (m + n) (r * s) := by
  obtain ⟨z, a1, rfl⟩ := h1.ex
  obtain ⟨w, a2, rfl⟩ := h2.ex
  refine ⟨Nat.mul_pos h1.pos h2.pos, z * w, ?_, ?_⟩
  · rw [Int.natAbs_mul]
    exact mul_lt a1 a2
  · rw [Rat.divInt_mul_divInt, Int.natCast_mul]
theorem Dz.sm {C n : Nat} {r : Rat} (h : Dz C n r) (hC : C < 2 ^ n) : Sm n r := by
  obtain ⟨z, a1, rfl⟩ := h.ex
  exact sm_divInt a1 (by rw [Int.natAbs_natCast]; exact hC) (by have := h.pos; omega)
/-- the distances of one width, those that are above 0, multiplied -/
def wd (ts : List Int) (g k : Nat) : Nat := if 0 < ts[k + g]! - ts[k]! then (ts[k + g]! - ts[k]!).toNat else 1
def Qn (ts : List Int) (g : Nat) : Nat → Nat
  | 0 => 1
  | n + 1 => Qn ts g n * wd ts g n
theorem wd_pos {ts : List Int} {g k : Nat} : 0 < wd ts g k := by
  unfold wd
  split <;> omega
theorem Qn_pos {ts : List Int} {g : Nat} : ∀ n : Nat, 0 < Qn ts g n
  | 0 => Nat.one_pos
  | n + 1 => Nat.mul_pos (Qn_pos n) wd_pos
theorem Qn_dvd {ts : List Int} {g k : Nat} : ∀ n : Nat, k < n → wd ts g k ∣ Qn ts g n
  | 0, h => by omega
  | n + 1, h => by
    by_cases e : k = n
    · subst e
      exact Nat.dvd_mul_left _ _
    · exact Nat.dvd_trans (Qn_dvd n (by omega)) (Nat.dvd_mul_right _ _)
theorem Qn_le {ts : List Int} {g : Nat} (ht : ∀ i : Nat, 0 ≤ ts[i]! ∧ ts[i]! < 2 ^ 20) : ∀ n : Nat, Qn ts g n ≤ 2 ^ (20 * n)
  | 0 => Nat.le_refl 1
  | n + 1 => by
    have h1 := Qn_le ht n (g := g)
    have h2 : wd ts g n ≤ 2 ^ 20 := by
      have a := ht (n + g)
      have b := ht n
      unfold wd
      split <;> omega
    have := Nat.mul_le_mul h1 h2
    rw [← Nat.pow_add, show 20 * n + 20 = 20 * (n + 1) by omega] at this
    exact this
theorem dz_fac {ts : List Int} {g k n : Nat} {t : Int} (ht : ∀ i : Nat, 0 ≤ ts[i]! ∧ ts[i]! < 2 ^ 20) (hk : k < n) (h : t.natAbs < 2 ^ 21) : Dz (Qn ts g n) (21 + 20 * n) (facR (ts[k + g]! - ts[k]!) t 1) := by
  unfold facR
  by_cases hd : 0 < ts[k + g]! - ts[k]!
  · rw [if_pos hd, Int.mul_one]
    obtain ⟨c, hc⟩ := Qn_dvd (ts := ts) (g := g) n hk
    have hw : ((wd ts g k : Nat) : Int) = ts[k + g]! - ts[k]! := by
      unfold wd
      rw [if_pos hd]
      omega
    have cp : 0 < c := by
      rcases Nat.eq_zero_or_pos c with z | z
      · have := Qn_pos (ts := ts) (g := g) n
        rw [hc, z] at this
        simp at this
      · exact z
    have c0 : (c : Int) ≠ 0 := by omega
    refine ⟨Qn_pos n, t * c, ?_, ?_⟩
    · rw [Int.natAbs_mul, Int.natAbs_natCast]
      have hq := Qn_le (g := g) ht n
      have : c ≤ Qn ts g n := by
        rw [hc]
        exact Nat.le_mul_of_pos_left _ wd_pos
      rw [Nat.pow_add]
      exact Nat.mul_lt_mul_of_lt_of_le h (Nat.le_trans this hq) (Nat.pow_pos (by decide))
    · rw [hc, Int.natCast_mul, hw, Rat.divInt_mul_right c0]
  · rw [if_neg hd]
    exact Dz.zero (Qn_pos n)
def Cn (ts : List Int) (n : Nat) : Nat → Nat
  | 0 => 1
  | g + 1 => Qn ts (g + 1) n * Cn ts n g
def en (n : Nat) : Nat → Nat
  | 0 => 1
  | g + 1 => 21 + 20 * n + en n g + 1
theorem Cn_le {ts : List Int} (ht : ∀ i : Nat, 0 ≤ ts[i]! ∧ ts[i]! < 2 ^ 20) {n : Nat} : ∀ g : Nat, Cn ts n g ≤ 2 ^ (20 * n * g)
  | 0 => by simp [Cn]
  | g + 1 => by
    have h := Nat.mul_le_mul (Qn_le (g := g + 1) ht n) (Cn_le ht (n := n) g)
    rw [← Nat.pow_add, show 20 * n + 20 * n * g = 20 * n * (g + 1) by rw [Nat.mul_add, Nat.mul_one]; omega] at h
    exact h
theorem dz_hill {ts : List Int} {x : Int} {n : Nat} (ht : ∀ i : Nat, 0 ≤ ts[i]! ∧ ts[i]! < 2 ^ 20) (hx0 : 0 ≤ x) (hx : x < 2 ^ 20) : ∀ g k : Nat, k + g < n → Dz (Cn ts n g) (en n g) (hill ts x 1 g k)
  | 0, k, _ => by
    unfold hill
    split
    · exact ⟨Nat.one_pos, 1, show (1 : Int).natAbs < 2 ^ 1 by decide, show (1 : Rat) = Rat.divInt 1 1 by decide⟩
    · exact Dz.zero Nat.one_pos
  | g + 1, k, hk => by
    have i1 := dz_hill (n := n) ht hx0 hx g k (by omega)
    have i2 := dz_hill (n := n) ht hx0 hx g (k + 1) (by omega)
    have a := ht k
    have b := ht (k + g + 2)
    have f1 := dz_fac (g := g + 1) (k := k) (n := n) (t := x - ts[k]! * 1) ht (by omega) (by omega)
    have f2 := dz_fac (g := g + 1) (k := k + 1) (n := n) (t := ts[k + g + 2]! * 1 - x) ht (by omega) (by omega)
    have m1 := f1.mul i1
    have m2 := f2.mul i2
    rw [show k + 1 + (g + 1) = k + g + 2 by omega] at m2
    exact m1.add m2
/-! ### products summed -/
def dotR : List Rat → List Rat → Rat → Rat
  | a :: as, h :: hs, t => dotR as hs (t + a * h)
  | _, _, t => t
theorem dot_shift (u : Rat) : ∀ (as hs : List Rat) (t : Rat), dotR as hs (t + u) = dotR as hs t + u
  | [], _, _ => rfl
  | _ :: _, [], _ => rfl
  | a :: as, h :: hs, t => by
    show dotR as hs (t + u + a * h) = dotR as hs (t + a * h) + u
    rw [← dot_shift u as hs, Rat.add_assoc, Rat.add_comm u, ← Rat.add_assoc]
def otherL (c : Rat) (k : Nat) (rs : List Rat) : List Rat := rs.take k ++ ((rs[k]! + c) :: rs.drop (k + 1))
theorem dot_other (c : Rat) : ∀ (rs hs : List Rat) (k : Nat) (t : Rat), k < rs.length → k < hs.length → dotR (otherL c k rs) hs t = dotR rs hs t + c * hs[k]!
  | [], _, _, _, h, _ => nomatch h
  | _ :: _, [], _, _, _, h => nomatch h
  | a :: as, h :: hs, 0, t, _, _ => by
    show dotR as hs (t + (a + c) * h) = dotR as hs (t + a * h) + c * h
    rw [← dot_shift, Rat.add_mul, ← Rat.add_assoc]
  | a :: as, h :: hs, k + 1, t, h1, h2 => dot_other c as hs k (t + a * h) (Nat.lt_of_succ_lt_succ h1) (Nat.lt_of_succ_lt_succ h2)
theorem other_ne {c : Rat} (hc : c ≠ 0) : ∀ (rs : List Rat) (k : Nat), k < rs.length → otherL c k rs ≠ rs
  | [], _, h => nomatch h
  | a :: as, 0, _ => fun e => by
    have e1 : a + c = a := (List.cons.inj e).1
    have e2 : a + c = a + 0 := by rw [e1, Rat.add_zero]
    have e3 : -a + (a + c) = -a + (a + 0) := by rw [e2]
    rw [← Rat.add_assoc, ← Rat.add_assoc, Rat.neg_add_cancel, Rat.zero_add, Rat.zero_add] at e3
    exact hc e3
  | a :: as, k + 1, h => fun e => other_ne hc as k (Nat.lt_of_succ_lt_succ h) (List.cons.inj e).2
theorem other_len {c : Rat} {k : Nat} {rs : List Rat} (h : k < rs.length) : (otherL c k rs).length = rs.length := by
  unfold otherL
  simp only [List.length_append, List.length_take, List.length_cons, List.length_drop]
  omega
theorem forL_nx {body : D → SM} {d : D} {ds : List D} {rho rho' : List Slot} {mu mu' : Mu} (h : body d rho mu = some (.fl .nx rho', mu')) : forL body (d :: ds) rho mu = forL body ds rho' mu' := by
  show (match body d rho mu with
    | none => none
    | some (.fl .nx rho', m) => forL body ds rho' m
    | some (.fl .ct rho', m) => forL body ds rho' m
    | some (.fl .bk rho', m) => some (.fl .nx rho', m)
    | r => r) = _
  rw [h]
/-- the loop of a sum of products -/
theorem dot_loop {pl tm : FM} {mu : Mu} {A B : Slot} {C E m n : Nat} (hpl : ∀ {N : Nat} {r s : Rat}, Sm N r → Sm N s → N ≤ 4000 → pl [frD r, frD s] mu = some (.ok (.fz (frD (r + s))), mu)) (htm : ∀ {N : Nat} {r s : Rat}, Sm N r → Sm N s → N ≤ 4000 → tm [frD r, frD s] mu = some (.ok (.fz (frD (r * s))), mu))
    (hC : E * C < 2 ^ (m + n)) : ∀ (as hs : List Rat) (t : Rat) (k : Nat) (x y : Slot), as.length = hs.length → (∀ a ∈ as, Dz E m a ∧ Sm 2000 a) → (∀ h ∈ hs, Dz C n h ∧ Sm 2000 h) → m + n ≤ k → Dz (E * C) k t → k + as.length ≤ 4000 →
    ∃ x' y', forL (sBody (putPair 3 4) (sSet 2 (eOwn pl (aLen 2 (aCons (eVar 2) (aCons (eOwn tm (aLen 2 (aCons (eVar 3) (aCons (eVar 4) aNil)))) aNil)))))) (zipD (as.map frD) (hs.map frD)) [A, B, .va (frD t), x, y] mu = some (.fl .nx [A, B, .va (frD (dotR as hs t)), x', y'], mu) ∧ Dz (E * C) (k + as.length) (dotR as hs t)
  | [], [], t, k, x, y, _, _, _, _, ht, _ => ⟨x, y, rfl, ht⟩
  | a :: as, h :: hs, t, k, x, y, hl, ha, hh, hk, ht, hb => by
    obtain ⟨a1, a2⟩ := ha a List.mem_cons_self
    obtain ⟨b1, b2⟩ := hh h List.mem_cons_self
    have len : (a :: as).length = as.length + 1 := rfl
    have p := (a1.mul b1).up hk
    have tm1 := htm a2 b2 (by omega)
    have hCk : E * C < 2 ^ k := Nat.lt_of_lt_of_le hC (pw_le hk)
    have pl1 := hpl (ht.sm hCk) (p.sm hCk) (by omega)
    obtain ⟨x', y', e, d⟩ := dot_loop hpl htm hC as hs (t + a * h) (k + 1) (.va (frD a)) (.va (frD h)) (Nat.succ.inj hl) (fun z hz => ha z (List.mem_cons_of_mem _ hz)) (fun z hz => hh z (List.mem_cons_of_mem _ hz)) (by omega) (ht.add p) (by omega)
    refine ⟨x', y', ?_, by rw [len, show k + (as.length + 1) = k + 1 + as.length by omega]; exact d⟩
    show forL _ (.tup [frD a, frD h] :: zipD (as.map frD) (hs.map frD)) _ mu = _
    rw [forL_nx (rho' := [A, B, .va (frD (t + a * h)), .va (frD a), .va (frD h)]) (mu' := mu) ?_, e]
    · rfl
    · show sSet 2 _ [A, B, .va (frD t), .va (frD a), .va (frD h)] mu = _
      exact set_ok (v := .fz (frD (t + a * h))) (own_ok (args2 (v := .fz (frD t)) (w := .fz (frD (a * h))) (mu1 := mu) rfl (own_ok (args2 (v := .fz (frD a)) (w := .fz (frD h)) (mu1 := mu) rfl rfl) rfl tm1)) rfl pl1)
/-! ### rows of fractions held against one another -/
theorem canLay_fr : ∀ rs : List Rat, PyData.canLayAll0 (rs.map pyF) = true
  | [] => rfl
  | r :: rs => by
    show (PyData.canLay0 (pyF r) && PyData.canLayAll0 (rs.map pyF)) = true
    rw [canLay_fr rs]
    rfl
theorem shaped_fr (rs : List Rat) : SeqAt.shaped (.tuple (rs.map pyF)) = true := by
  have h := depthA rs
  unfold SeqAt.shaped
  rw [Bool.and_eq_true]
  refine ⟨canLay_fr rs, decide_eq_true ?_⟩
  simp only [PyData.depth]
  omega
theorem eqv_fr : ∀ (rs ss : List Rat), PyData.eqvAll (rs.map pyF) (ss.map pyF) = decide (rs = ss)
  | [], [] => rfl
  | [], _ :: _ => rfl
  | _ :: _, [] => rfl
  | r :: rs, s :: ss => by
    show (PyData.eqv (pyF r) (pyF s) && PyData.eqvAll (rs.map pyF) (ss.map pyF)) = _
    rw [eqv_fr rs ss]
    have e : PyData.eqv (pyF r) (pyF s) = decide (r = s) := by
      show PyData.eqvAll ([r.num, (r.den : Int)].map PyData.int) ([s.num, (s.den : Int)].map PyData.int) = _
      rw [eqv_ints]
      refine decide_eq_decide.mpr ⟨fun z => ?_, fun z => by rw [z]⟩
      simp only [List.cons.injEq, and_true] at z
      exact Rat.ext z.1 (by omega)
    rw [e]
    by_cases h : r = s <;> by_cases h2 : rs = ss <;> simp [h, h2]
theorem toPy_frs (rs : List Rat) : toPy (.tup (rs.map frD)) = some (.tuple (rs.map pyF)) := by
  show (toPys (rs.map frD)).map _ = _
  rw [toPys_fr]
  rfl
theorem ne_frs (rs ss : List Rat) : neM (.tup (rs.map frD)) (.tup (ss.map frD)) = some (.fz (.bl (!decide (rs = ss)))) := by
  show (match eqSc true (.tup (rs.map frD)) (.tup (ss.map frD)) with
    | some z => some z
    | none => eqPy true (.tup (rs.map frD)) (.tup (ss.map frD))) = _
  have e : eqSc true (.tup (rs.map frD)) (.tup (ss.map frD)) = none := rfl
  rw [e]
  show eqPy true (.tup (rs.map frD)) (.tup (ss.map frD)) = _
  unfold eqPy
  rw [toPy_frs, toPy_frs]
  show (if (SeqAt.shaped (.tuple (rs.map pyF)) && SeqAt.shaped (.tuple (ss.map pyF))) = true then _ else _) = _
  rw [shaped_fr, shaped_fr, if_pos rfl]
  show some (Vl.fz (.bl (!PyData.eqvAll (rs.map pyF) (ss.map pyF)))) = _
  rw [eqv_fr]
theorem eq_frs (rs ss : List Rat) : eqM (.tup (rs.map frD)) (.tup (ss.map frD)) = some (.fz (.bl (decide (rs = ss)))) := by
  show (match eqSc false (.tup (rs.map frD)) (.tup (ss.map frD)) with
    | some z => some z
    | none => eqPy false (.tup (rs.map frD)) (.tup (ss.map frD))) = _
  have e : eqSc false (.tup (rs.map frD)) (.tup (ss.map frD)) = none := rfl
  rw [e]
  show eqPy false (.tup (rs.map frD)) (.tup (ss.map frD)) = _
  unfold eqPy
  rw [toPy_frs, toPy_frs]
  show (if (SeqAt.shaped (.tuple (rs.map pyF)) && SeqAt.shaped (.tuple (ss.map pyF))) = true then _ else _) = _
  rw [shaped_fr, shaped_fr]
  show some (Vl.fz (.bl (PyData.eqvAll (rs.map pyF) (ss.map pyF)))) = _
  rw [eqv_fr]
theorem eq_tints (ns ms : List Int) : eqM (.tup (ns.map .int)) (.tup (ms.map .int)) = some (.fz (.bl (decide (ns = ms)))) := by
  show (match eqSc false (.tup (ns.map D.int)) (.tup (ms.map D.int)) with
    | some z => some z
    | none => eqPy false (.tup (ns.map D.int)) (.tup (ms.map D.int))) = _
  have e : eqSc false (.tup (ns.map D.int)) (.tup (ms.map D.int)) = none := rfl
  rw [e]
  show eqPy false (.tup (ns.map D.int)) (.tup (ms.map D.int)) = _
  unfold eqPy
  have a1 : ∀ ns : List Int, toPy (.tup (ns.map D.int)) = some (.tuple (ns.map PyData.int)) := fun ns => by
    show (toPys (ns.map D.int)).map _ = _
    rw [toPys_ints]
    rfl
  have sh : ∀ ns : List Int, SeqAt.shaped (.tuple (ns.map PyData.int)) = true := shaped_ints
  rw [a1, a1]
  show (if (SeqAt.shaped (.tuple (ns.map PyData.int)) && SeqAt.shaped (.tuple (ms.map PyData.int))) = true then _ else _) = _
  rw [sh, sh]
  show some (Vl.fz (.bl (PyData.eqvAll (ns.map PyData.int) (ms.map PyData.int)))) = _
  rw [eqv_ints]
end Ev
end
section
set_option Elab.async false
set_option linter.all false
set_option maxRecDepth 100000
set_option exponentiation.threshold 10000
open PySem PySem.Spec PyProof.Rows L2 Mi Go
namespace Ev
theorem tst_ne {f g : EM} {rho : List Slot} {mu mu1 mu2 : Mu} {v w : Vl} {s : Str} (h1 : f rho mu = some (.ok v, mu1)) (h2 : g rho mu1 = some (.ok w, mu2)) (e1 : v.d = .str s) (e2 : w.d = .str s) : bOf (eBin neM f g) rho mu = some (.ok false, mu2) :=
  test_ok h1 h2 (by rw [e1, e2, ne_str]; simp)
theorem bor_ff {t u : BM} {rho : List Slot} {mu mu1 mu2 : Mu} (h1 : t rho mu = some (.ok false, mu1)) (h2 : u rho mu1 = some (.ok false, mu2)) : bOr t u rho mu = some (.ok false, mu2) := by
  unfold bOr M.bind
  rw [h1]
  simp only [Bool.false_eq_true, if_false]
  exact h2
theorem frm_of {mh : Nat} {top : Int} {g : Nat} {ts : List Int} (d : Drawn mh top g ts) (hm : mh ≤ 10) (ht : top ≤ 900000) : Frm g ts where
  g4 := d.g4
  len := by
    have := d.len
    have := d.g4
    omega
  srt := d.srt
  low := fun i hi => by
    have := d.low i hi
    have := d.len
    have := d.g4
    omega
  gap := d.gap
theorem args3 {f g h : EM} {rho : List Slot} {mu mu1 mu2 mu3 : Mu} {v w u : Vl} (h1 : f rho mu = some (.ok v, mu1)) (h2 : g rho mu1 = some (.ok w, mu2)) (h3 : h rho mu2 = some (.ok u, mu3)) : aCons f (aCons g (aCons h aNil)) rho mu = some (.ok [v.d, w.d, u.d], mu3) := by
  unfold aCons M.bind
  rw [h1]
  simp only [h2, h3]
  rfl
theorem argc {f : EM} {g : AM} {rho : List Slot} {mu mu1 mu2 : Mu} {v : Vl} {ds : List D} (h1 : f rho mu = some (.ok v, mu1)) (h2 : g rho mu1 = some (.ok ds, mu2)) : aCons f g rho mu = some (.ok (v.d :: ds), mu2) := by
  unfold aCons M.bind
  rw [h1]
  simp only [h2]
  rfl
theorem anil_ok {rho : List Slot} {mu : Mu} : aNil rho mu = some (.ok [], mu) := rfl
theorem mlst_ok {ds : List D} (h : ds.length ≤ 100000) : mLst ds = some (.fr ds) := if_pos h
theorem frD_of {r : Rat} {a : Int} {b : Nat} (h1 : r.num = a) (h2 : r.den = b) : frD r = .tup [.int a, .int b] := by
  subst h1 h2
  rfl
theorem all_true : ∀ l : List Nat, bls (l.map fun _ => D.bl true) = some (l.map fun _ => true)
  | [] => rfl
  | _ :: l => by
    show (bls (l.map fun _ => D.bl true)).map (true :: ·) = _
    rw [all_true l]
    rfl
theorem asc_of {ts : List Int} (h : ∀ j, j < ts.length → ∀ i, i < j + 1 → ts[i]! ≤ ts[j]!) : Asc ts := fun i j hij hj => h j hj i (by omega)
theorem ramp : Frm 1 [0, 2, 4, 6] where
  g4 := by decide
  len := by decide
  srt := asc_of (by decide)
  low := by decide
  gap := fun j hj => by
    have : j < 2 := by simp at hj; omega
    match j, this with
    | 0, _ => decide
    | 1, _ => decide
abbrev CurD (g : Nat) (ts : List Int) (rs : List Rat) : D := .ins 1 [FrmD g ts, .tup (rs.map frD)]
abbrev rowR (ts : List Int) (x : Int) (g : Nat) : List Rat := (List.range (ts.length - g - 1)).map fun k => hill ts x 1 g k
theorem row_map {ts : List Int} {x : Int} {g : Nat} : rowD ts x g = (rowR ts x g).map frD := by
  rw [List.map_map]
  rfl
theorem isfrac_ok {r : Rat} {mu : Mu} : m_is_fraction [frD r] mu = some (.ok (.fz (.bl true)), mu) := by
  have hd : (1 : Int) ≤ (r.den : Int) := by have := r.den_pos; omega
  have hg : gcdM (.int r.num) (.int (r.den : Int)) = some (.fz (.int 1)) := by
    show some (Vl.fz (.int ((Nat.gcd r.num.natAbs r.den : Nat) : Int))) = _
    rw [r.reduced]
    rfl
  unfold m_is_fraction b_is_fraction
  refine fnM_of (rho0 := [.va (frD r), .no, .no]) (rho' := [.va (frD r), .va (.int r.num), .va (.int r.den)]) rfl ?_
  rw [seq_nx (rho' := [.va (frD r), .no, .no]) (mu' := mu) rfl, seq_nx (rho' := [.va (frD r), .va (.int r.num), .va (.int r.den)]) (mu' := mu) rfl]
  have e1 : eqM (.int 1) (.int 1) = some (.fz (.bl true)) := rfl
  have i1 := isint_ok (i := r.num) (mu := mu)
  have i2 := isint_ok (i := (r.den : Int)) (mu := mu)
  generalize frD r = FR at *
  simp [fnM, sSeq, sNil, sMug, sWith, eBin, eIx, eVar, eC, Mi.M.bind, Mi.M.pure, Mi.M.of, Mi.M.no, slotD, ixD, atI0, atI1, atI2, Vl.d, addA, Mi.orM, addI, subI, mulA, mulS, muSet, ixN, sIf, bOf, gtM, ltM, geM, leM, cmpI, blD, sSet, modA, modI, eCall, aCons, aNil, m1, intM, divA, divS, divI, sRet, aLen, eOwn, lenD, eAnd, i1, i2, truD, hd, m2, hg, e1]
theorem zipD_mem {d : D} : ∀ {xs ys : List D}, d ∈ zipD xs ys → ∃ x y, x ∈ xs ∧ y ∈ ys ∧ d = .tup [x, y]
  | [], _, h => nomatch h
  | _ :: _, [], h => nomatch h
  | x :: xs, y :: ys, h => by
    rcases List.mem_cons.mp h with z | z
    · exact ⟨x, y, List.mem_cons_self, List.mem_cons_self, z⟩
    · obtain ⟨a, b, h1, h2, h3⟩ := zipD_mem (show d ∈ zipD xs ys from z)
      exact ⟨a, b, List.mem_cons_of_mem _ h1, List.mem_cons_of_mem _ h2, h3⟩
theorem amounts_ok {g : Nat} {ts : List Int} {rs : List Rat} {mu : Mu} (F : Frm g ts) (hl : rs.length = ts.length - g - 1) : m_check_amounts [FrmD g ts, .tup (rs.map frD)] mu = some (.ok (.fz .non), mu) := by
  have ph := phills_ok (mu := mu) F
  rw [← hl] at ph
  unfold m_check_amounts b_check_amounts
  obtain ⟨rho', mu', e, rfl, x, y, rfl⟩ := forL_inv (body := sBody (putPair 2 3) (sIf (bNot (bTru (eOwn m_is_fraction (aLen 1 (aCons (eVar 3) aNil))))) sNever sNil)) (I := fun rho m => m = mu ∧ ∃ x y, rho = [.va (FrmD g ts), .va (.tup (rs.map frD)), x, y]) (ds := zipD (cntD (rs.map frD).length) (rs.map frD)) (rho := [.va (FrmD g ts), .va (.tup (rs.map frD)), .no, .no]) (mu := mu) (fun d hd rho m ⟨hm, x, y, hr⟩ => by
    subst hm hr
    obtain ⟨i, q, _, hq, rfl⟩ := zipD_mem hd
    obtain ⟨r, _, rfl⟩ := List.mem_map.mp hq
    have f := isfrac_ok (r := r) (mu := m)
    refine ⟨[.va (FrmD g ts), .va (.tup (rs.map frD)), .va i, .va (frD r)], m, ?_, rfl, _, _, rfl⟩
    show sIf _ _ _ [.va (FrmD g ts), .va (.tup (rs.map frD)), .va i, .va (frD r)] m = _
    generalize frD r = FR at *
    generalize FrmD g ts = FD at *
    generalize rs.map frD = RS at *
    simp [fnM, sSeq, sNil, sMug, sWith, eBin, eIx, eVar, eC, Mi.M.bind, Mi.M.pure, Mi.M.of, Mi.M.no, slotD, ixD, atI0, atI1, atI2, Vl.d, addA, Mi.orM, addI, subI, mulA, mulS, muSet, ixN, sIf, bOf, gtM, ltM, geM, leM, cmpI, blD, sSet, modA, modI, eCall, aCons, aNil, m1, intM, divA, divS, divI, sRet, aLen, eOwn, lenD, bNot, bTru, truD, f]) ⟨rfl, _, _, rfl⟩
  refine fnM_nx (rho0 := [.va (FrmD g ts), .va (.tup (rs.map frD)), .no, .no]) rfl ?_ (rho' := [.va (FrmD g ts), .va (.tup (rs.map frD)), x, y])
  have n2 : neM (.int (rs.length : Int)) (.int (rs.length : Int)) = some (.fz (.bl false)) := by
    show (match eqSc true (.int (rs.length : Int)) (.int (rs.length : Int)) with
      | some z => some z
      | none => eqPy true (.int (rs.length : Int)) (.int (rs.length : Int))) = _
    have e : eqSc true (.int (rs.length : Int)) (.int (rs.length : Int)) = some (.fz (.bl (!decide (V.int (rs.length : Int) = V.int (rs.length : Int))))) := rfl
    rw [e]
    simp
  rw [seq_nx (rho' := [.va (FrmD g ts), .va (.tup (rs.map frD)), .no, .no]) (mu' := mu') ?_]
  · exact e
  · have h1 : m2 (isiM (tbC 2)) [.tup (rs.map frD), .ty "tuple"] = some (.fz (.bl true)) := rfl
    have l1 : lenD (.tup (rs.map frD)) = some (.fz (.int (rs.length : Int))) := by
      show some (Vl.fz (.int ((rs.map frD).length : Int))) = _
      rw [List.length_map]
    rw [if_f (bor_ff (mu1 := mu') (mu2 := mu') ?_ (test_ok (v := .fz (.int (rs.length : Int))) (w := .fz (.int (rs.length : Int))) (mu1 := mu') (mu2 := mu') (bi_ok (args1 (v := .fz (.tup (rs.map frD))) (mu' := mu') rfl) l1) ?_ n2))]
    · rfl
    · rfl
    · show (match m_Frame_hills [FrmD g ts] mu' with
        | some (Out.ok d, m) => some (Out.ok d, m)
        | _ => (none : Option (Out Vl × Mu))) = _
      rw [ph]
theorem cinit_ok {g : Nat} {ts : List Int} {rs : List Rat} {mu : Mu} (F : Frm g ts) (hl : rs.length = ts.length - g - 1) : i_Curve [FrmD g ts, .tup (rs.map frD)] mu = some (.ok [FrmD g ts, .tup (rs.map frD)], mu) := by
  have k := amounts_ok (mu := mu) F hl
  have c := cframe_ok (g := g) (ts := ts) (mu := mu)
  generalize FrmD g ts = FD at *
  generalize rs.map frD = RS at *
  unfold i_Curve initM b_Curve___init__
  simp [fnM, sSeq, sNil, sMug, sWith, eBin, eIx, eVar, eC, Mi.M.bind, Mi.M.pure, Mi.M.of, Mi.M.no, slotD, ixD, atI0, atI1, atI2, Vl.d, addA, Mi.orM, addI, subI, mulA, mulS, muSet, ixN, sIf, bOf, gtM, ltM, geM, leM, cmpI, blD, sSet, modA, modI, eCall, aCons, aNil, m1, intM, divA, divS, divI, sRet, aLen, eOwn, lenD, sDrop, c, k, sFldI, owI]
theorem cmake_ok {g : Nat} {ts : List Int} {rs : List Rat} {rho : List Slot} {f : AM} {mu mu' : Mu} (F : Frm g ts) (hl : rs.length = ts.length - g - 1) (h : f rho mu = some (.ok [FrmD g ts, .tup (rs.map frD)], mu')) : eMake 1 (lenI 2 i_Curve) (aLen 2 f) rho mu = some (.ok (.fz (CurD g ts rs)), mu') := by
  have k := cinit_ok (mu := mu') F hl
  unfold CurD
  generalize FrmD g ts = FD at *
  generalize rs.map frD = RS at *
  simp [fnM, sSeq, sNil, sMug, sWith, eBin, eIx, eVar, eC, Mi.M.bind, Mi.M.pure, Mi.M.of, Mi.M.no, slotD, ixD, atI0, atI1, atI2, Vl.d, addA, Mi.orM, addI, subI, mulA, mulS, muSet, ixN, sIf, bOf, gtM, ltM, geM, leM, cmpI, blD, sSet, modA, modI, eCall, aCons, aNil, m1, intM, divA, divS, divI, sRet, aLen, eOwn, lenD, eMake, lenI, h, k]
theorem cmakeK_ok {g : Nat} {ts : List Int} {rs : List Rat} {rho : List Slot} {f : AM} {mu mu' : Mu} (F : Frm g ts) (hl : rs.length = ts.length - g - 1) (h : f rho mu = some (.ok [.tup (rs.map frD), FrmD g ts], mu')) : eMakeK 1 (lenI 2 i_Curve) [1, 0] 2 f rho mu = some (.ok (.fz (CurD g ts rs)), mu') := by
  have k := cinit_ok (mu := mu') F hl
  unfold CurD
  generalize FrmD g ts = FD at *
  generalize rs.map frD = RS at *
  simp [fnM, sSeq, sNil, sMug, sWith, eBin, eIx, eVar, eC, Mi.M.bind, Mi.M.pure, Mi.M.of, Mi.M.no, slotD, ixD, atI0, atI1, atI2, Vl.d, addA, Mi.orM, addI, subI, mulA, mulS, muSet, ixN, sIf, bOf, gtM, ltM, geM, leM, cmpI, blD, sSet, modA, modI, eCall, aCons, aNil, m1, intM, divA, divS, divI, sRet, aLen, eOwn, lenD, eMakeK, lenI, reK, h, k]
theorem feq_ok {g : Nat} {ts : List Int} {mu : Mu} : m_Frame___eq__ [FrmD g ts, FrmD g ts] mu = some (.ok (.fz (.bl true)), mu) := by
  have h1 : m2 (isiM (tbC 2)) [FrmD g ts, .cls 0] = some (.fz (.bl true)) := rfl
  have h2 := eq_int g g
  have h3 := eq_tints ts ts
  rw [decide_eq_true rfl] at h2 h3
  simp [fnM, sSeq, sNil, sMug, sWith, eBin, eIx, eVar, eC, Mi.M.bind, Mi.M.pure, Mi.M.of, Mi.M.no, slotD, ixD, atI0, atI1, atI2, Vl.d, addA, Mi.orM, addI, subI, mulA, mulS, muSet, ixN, sIf, bOf, gtM, ltM, geM, leM, cmpI, blD, sSet, modA, modI, eCall, aCons, aNil, m1, intM, divA, divS, divI, sRet, aLen, eOwn, lenD, m_Frame___eq__, b_Frame___eq__, eAnd, h1, truD, eUn, fldD, h2, h3]
theorem ceq_ok {g : Nat} {ts : List Int} {rs ss : List Rat} {mu : Mu} : m_Curve___eq__ [CurD g ts rs, CurD g ts ss] mu = some (.ok (.fz (.bl (decide (rs = ss)))), mu) := by
  have h1 : m2 (isiM (tbC 2)) [CurD g ts ss, .cls 1] = some (.fz (.bl true)) := rfl
  have h2 : orE (eqO 0 m_Frame___eq__ (nfC 2)) eqM (FrmD g ts) (FrmD g ts) = some (.fz (.bl true)) := by
    unfold orE eqO
    rw [show tyD (FrmD g ts) = some (.cls 0) from rfl, feq_ok]
    rfl
  have h3 := eq_frs rs ss
  unfold CurD at *
  generalize FrmD g ts = FD at *
  generalize rs.map frD = RS at *
  generalize ss.map frD = SS at *
  simp [fnM, sSeq, sNil, sMug, sWith, eBin, eIx, eVar, eC, Mi.M.bind, Mi.M.pure, Mi.M.of, Mi.M.no, slotD, ixD, atI0, atI1, atI2, Vl.d, addA, Mi.orM, addI, subI, mulA, mulS, muSet, ixN, sIf, bOf, gtM, ltM, geM, leM, cmpI, blD, sSet, modA, modI, eCall, aCons, aNil, m1, intM, divA, divS, divI, sRet, aLen, eOwn, lenD, m_Curve___eq__, b_Curve___eq__, eAnd, h1, truD, eUn, fldD, h2, h3]
theorem ceqt_ok {g : Nat} {ts : List Int} {rs : List Rat} {xs : List D} {mu : Mu} : m_Curve___eq__ [CurD g ts rs, .tup xs] mu = some (.ok (.fz (.bl false)), mu) := by
  have h1 : m2 (isiM (tbC 2)) [.tup xs, .cls 1] = some (.fz (.bl false)) := rfl
  unfold CurD
  generalize FrmD g ts = FD at *
  generalize rs.map frD = RS at *
  simp [fnM, sSeq, sNil, sMug, sWith, eBin, eIx, eVar, eC, Mi.M.bind, Mi.M.pure, Mi.M.of, Mi.M.no, slotD, ixD, atI0, atI1, atI2, Vl.d, addA, Mi.orM, addI, subI, mulA, mulS, muSet, ixN, sIf, bOf, gtM, ltM, geM, leM, cmpI, blD, sSet, modA, modI, eCall, aCons, aNil, m1, intM, divA, divS, divI, sRet, aLen, eOwn, lenD, m_Curve___eq__, b_Curve___eq__, eAnd, h1, truD]
theorem oeq_cc {g : Nat} {ts : List Int} {rs ss : List Rat} : orE (eqO 1 m_Curve___eq__ (nfC 2)) eqM (CurD g ts rs) (CurD g ts ss) = some (.fz (.bl (decide (rs = ss)))) := by
  unfold orE eqO
  rw [show tyD (CurD g ts ss) = some (.cls 1) from rfl, ceq_ok]
  rfl
theorem one_cc {g : Nat} {ts : List Int} {rs ss : List Rat} : orE (neO 1 m_Curve___eq__ (nfC 2)) neM (CurD g ts rs) (CurD g ts ss) = some (.fz (.bl (!decide (rs = ss)))) := by
  unfold orE neO
  rw [show tyD (CurD g ts ss) = some (.cls 1) from rfl, ceq_ok]
  rfl
theorem oeq_ct {g : Nat} {ts : List Int} {rs : List Rat} {xs : List D} : orE (eqO 1 m_Curve___eq__ (nfC 2)) eqM (CurD g ts rs) (.tup xs) = some (.fz (.bl false)) := by
  unfold orE eqO
  rw [show tyD (.tup xs) = some (.ty "tuple") from rfl, ceqt_ok]
  rfl
theorem one_ff {g : Nat} {ts : List Int} : orE (neO 0 m_Frame___eq__ (nfC 2)) neM (FrmD g ts) (FrmD g ts) = some (.fz (.bl false)) := by
  unfold orE neO
  rw [show tyD (FrmD g ts) = some (.cls 0) from rfl, feq_ok]
  rfl
end Ev
end
section
set_option Elab.async false
set_option linter.all false
set_option maxRecDepth 100000
set_option exponentiation.threshold 10000
open PySem PySem.Spec PyProof.Rows L2 Mi Go
namespace Ev
theorem frm_20 {g : Nat} {ts : List Int} (F : Frm g ts) : ∀ i : Nat, 0 ≤ ts[i]! ∧ ts[i]! < 2 ^ 20 := fun i => by
  by_cases h : i < ts.length
  · have := F.low i h
    omega
  · rw [getElem!_neg ts i h]
    decide
theorem en_le : ∀ g : Nat, g ≤ 4 → en 11 g ≤ 969 := by decide
theorem cn_lt {g : Nat} {ts : List Int} (F : Frm g ts) : 126 * Cn ts 11 g < 2 ^ (12 + 969) := by
  have h := Cn_le (frm_20 F) (n := 11) g
  have g4 := F.g4
  have h2 : Cn ts 11 g ≤ 2 ^ 880 := Nat.le_trans h (pw_le (by omega))
  have h3 : (126 : Nat) < 2 ^ 7 := by decide
  have := Nat.mul_lt_mul_of_lt_of_le h3 h2 (Nat.pow_pos (by decide))
  rw [← Nat.pow_add] at this
  exact Nat.lt_of_lt_of_le this (pw_le (by decide))
theorem row_dz {g : Nat} {ts : List Int} {x : Int} (F : Frm g ts) (hl : ts.length ≤ 11) (hx0 : 0 ≤ x) (hx : x ≤ 1000000) : ∀ h ∈ rowR ts x g, Dz (Cn ts 11 g) 969 h ∧ Sm 2000 h := fun h hh => by
  obtain ⟨k, hk, rfl⟩ := List.mem_map.mp hh
  have hk := List.mem_range.mp hk
  have g4 := F.g4
  have d := (dz_hill (n := 11) (x := x) (frm_20 F) hx0 (by omega) g k (by omega)).up (en_le g g4)
  refine ⟨d, ?_⟩
  have c : Cn ts 11 g < 2 ^ 2000 := by
    have := cn_lt F
    have : 2 ^ (12 + 969) ≤ 2 ^ 2000 := pw_le (by decide)
    omega
  exact (d.up (show 969 ≤ 2000 by decide)).sm c
theorem am_sm {a : Rat} (h : Dz 126 12 a) : Sm 2000 a := (h.sm (by decide)).up (by decide)
theorem row_len {ts : List Int} {x : Int} {g : Nat} : (rowR ts x g).length = ts.length - g - 1 := by rw [List.length_map, List.length_range]
/-- how great such a sum is written -/
theorem dot_sm {g : Nat} {ts : List Int} {x : Int} {rs : List Rat} (F : Frm g ts) (hl : ts.length ≤ g + 7) (hx0 : 0 ≤ x) (hx : x ≤ 1000000) (hr : rs.length = ts.length - g - 1) (ha : ∀ a ∈ rs, Dz 126 12 a) : Sm 1900 (dotR rs (rowR ts x g) 0) := by
  have g4 := F.g4
  obtain ⟨_, _, _, d⟩ := dot_loop (pl := fun ds mu => match ds with
    | [.tup [.int a, .int b], .tup [.int c, .int e]] => some (.ok (.fz (frD (Rat.divInt a b + Rat.divInt c e))), mu)
    | _ => none) (tm := fun ds mu => match ds with
    | [.tup [.int a, .int b], .tup [.int c, .int e]] => some (.ok (.fz (frD (Rat.divInt a b * Rat.divInt c e))), mu)
    | _ => none) (mu := none) (A := .no) (B := .no) (fun {N r s} _ _ _ => by
      show some (Out.ok (Vl.fz (frD (Rat.divInt r.num r.den + Rat.divInt s.num s.den))), none) = _
      rw [Rat.num_divInt_den, Rat.num_divInt_den]) (fun {N r s} _ _ _ => by
      show some (Out.ok (Vl.fz (frD (Rat.divInt r.num r.den * Rat.divInt s.num s.den))), none) = _
      rw [Rat.num_divInt_den, Rat.num_divInt_den]) (cn_lt F) rs (rowR ts x g) 0 (12 + 969) .no .no (by rw [row_len]; exact hr) (fun a h => ⟨ha a h, am_sm (ha a h)⟩) (row_dz F (by omega) hx0 hx) (Nat.le_refl _) (Dz.zero (by
        have := (row_dz F (by omega) hx0 hx (hill ts x 1 g 0) (List.mem_map.mpr ⟨0, List.mem_range.mpr (by have := F.len; omega), rfl⟩)).1.pos
        omega)) (by omega)
  have c := cn_lt F
  exact (d.sm (Nat.lt_of_lt_of_le c (pw_le (by omega)))).up (by omega)
theorem forZM_ok {f : AM} {body : D → SM} {rho : List Slot} {mu mu' : Mu} {xs ys : List D} (h : f rho mu = some (.ok [.tup xs, .lst ys], mu')) : sForZM f body rho mu = forL body (zipD xs ys) rho mu' := by
  unfold sForZM sWith
  rw [h]
  rfl
section
variable {g : Nat} {ts : List Int} {x : Int} {rs : List Rat} {mu : Mu}
theorem psum_ok (F : Frm g ts) (hl : ts.length ≤ g + 7) (hx0 : 0 ≤ x) (hx : x ≤ 1000000) (hr : rs.length = ts.length - g - 1) (ha : ∀ a ∈ rs, Dz 126 12 a) : m_sum_of_products [.tup (rs.map frD), .lst ((rowR ts x g).map frD)] mu = some (.ok (.fz (frD (dotR rs (rowR ts x g) 0))), mu) := by
  have g4 := F.g4
  obtain ⟨x', y', e, _⟩ := dot_loop (pl := m_plus) (tm := m_times) (mu := mu) (A := .va (.tup (rs.map frD))) (B := .va (.lst ((rowR ts x g).map frD))) (fun h1 h2 h3 => pplus_ok h1 h2 h3) (fun h1 h2 h3 => ptimes_ok h1 h2 h3) (cn_lt F) rs (rowR ts x g) 0 (12 + 969) .no .no (by rw [row_len]; exact hr) (fun a h => ⟨ha a h, am_sm (ha a h)⟩) (row_dz F (by omega) hx0 hx) (Nat.le_refl _) (Dz.zero (by
        have := (row_dz F (by omega) hx0 hx (hill ts x 1 g 0) (List.mem_map.mpr ⟨0, List.mem_range.mpr (by have := F.len; omega), rfl⟩)).1.pos
        omega)) (by omega)
  unfold m_sum_of_products b_sum_of_products
  refine fnM_of (rho0 := [.va (.tup (rs.map frD)), .va (.lst ((rowR ts x g).map frD)), .no, .no, .no]) (rho' := [.va (.tup (rs.map frD)), .va (.lst ((rowR ts x g).map frD)), .va (frD (dotR rs (rowR ts x g) 0)), x', y']) rfl ?_
  rw [seq_nx (rho' := [.va (.tup (rs.map frD)), .va (.lst ((rowR ts x g).map frD)), .va (frD 0), .no, .no]) (mu' := mu) rfl]
  rw [seq_nx ((forZM_ok (mu' := mu) rfl).trans e)]
  exact ret_ok (v := .fz (frD (dotR rs (rowR ts x g) 0))) rfl
theorem ldot_ok {fuel : Nat} (hf : 2 ^ 8000 ≤ fuel) (F : Frm g ts) (hl : ts.length ≤ g + 7) (hx0 : 0 ≤ x) (hx : x ≤ 1000000) (hr : rs.length = ts.length - g - 1) (ha : ∀ a ∈ rs, Dz 126 12 a) : m__law_dot fuel [.tup (rs.map frD), .lst ((rowR ts x g).map frD)] mu = some (.ok (.fz (frD (dotR rs (rowR ts x g) 0))), mu) := by
  have g4 := F.g4
  obtain ⟨x', y', e, _⟩ := dot_loop (pl := m__law_plus fuel) (tm := m__law_mult fuel) (mu := mu) (A := .va (.tup (rs.map frD))) (B := .va (.lst ((rowR ts x g).map frD))) (fun h1 h2 h3 => plus_ok h1 h2 h3 hf) (fun h1 h2 h3 => mult_ok h1 h2 h3 hf) (cn_lt F) rs (rowR ts x g) 0 (12 + 969) .no .no (by rw [row_len]; exact hr) (fun a h => ⟨ha a h, am_sm (ha a h)⟩) (row_dz F (by omega) hx0 hx) (Nat.le_refl _) (Dz.zero (by
        have := (row_dz F (by omega) hx0 hx (hill ts x 1 g 0) (List.mem_map.mpr ⟨0, List.mem_range.mpr (by have := F.len; omega), rfl⟩)).1.pos
        omega)) (by omega)
  unfold m__law_dot b__law_dot
  refine fnM_of (rho0 := [.va (.tup (rs.map frD)), .va (.lst ((rowR ts x g).map frD)), .no, .no, .no]) (rho' := [.va (.tup (rs.map frD)), .va (.lst ((rowR ts x g).map frD)), .va (frD (dotR rs (rowR ts x g) 0)), x', y']) rfl ?_
  rw [seq_nx (rho' := [.va (.tup (rs.map frD)), .va (.lst ((rowR ts x g).map frD)), .va (frD 0), .no, .no]) (mu' := mu) rfl]
  rw [seq_nx ((forZM_ok (mu' := mu) rfl).trans e)]
  exact ret_ok (v := .fz (frD (dotR rs (rowR ts x g) 0))) rfl
theorem cvalue_ok (F : Frm g ts) (hl : ts.length ≤ g + 7) (hx0 : 0 ≤ x) (hx : x ≤ 1000000) (hr : rs.length = ts.length - g - 1) (ha : ∀ a ∈ rs, Dz 126 12 a) : m_Curve_value [CurD g ts rs, .int x] mu = some (.ok (.fz (frD (dotR rs (rowR ts x g) 0))), mu) := by
  have p := cplace_ok (mu := mu) hx0 hx
  have v := values_ok (mu := mu) F hx0 hx
  rw [row_map] at v
  have s := psum_ok (mu := mu) F hl hx0 hx hr ha
  unfold CurD
  generalize FrmD g ts = FD at *
  generalize rs.map frD = RS at *
  generalize (rowR ts x g).map frD = RW at *
  generalize frD (dotR rs (rowR ts x g) 0) = V at *
  simp [fnM, sSeq, sNil, sMug, sWith, eBin, eIx, eVar, eC, Mi.M.bind, Mi.M.pure, Mi.M.of, Mi.M.no, slotD, ixD, atI0, atI1, atI2, Vl.d, addA, Mi.orM, addI, subI, mulA, mulS, muSet, ixN, sIf, bOf, gtM, ltM, geM, leM, cmpI, blD, sSet, modA, modI, eCall, aCons, aNil, m1, intM, divA, divS, divI, sRet, aLen, eOwn, lenD, m_Curve_value, b_Curve_value, sDrop, p, eUn, fldD, v, s]
end
theorem as_frs {P : Rat → Prop} : ∀ {out : List D}, (∀ x ∈ out, ∃ r, x = frD r ∧ P r) → ∃ rs : List Rat, out = rs.map frD ∧ ∀ r ∈ rs, P r
  | [], _ => ⟨[], rfl, nofun⟩
  | d :: out, h => by
    obtain ⟨r, rfl, hp⟩ := h _ List.mem_cons_self
    obtain ⟨rs, rfl, hq⟩ := as_frs fun x hx => h x (List.mem_cons_of_mem _ hx)
    exact ⟨r :: rs, rfl, fun z hz => by
      rcases List.mem_cons.mp hz with y | y
      · exact y ▸ hp
      · exact hq z y⟩
theorem dz_am {z b : Int} (hz : z.natAbs ≤ 9) (hb : b = 1 ∨ b = 2 ∨ b = 3 ∨ b = 7) : Dz 126 11 (Rat.divInt z b) := by
  rcases hb with rfl | rfl | rfl | rfl
  · exact ⟨by decide, z * 126, by omega, (Rat.divInt_mul_right (a := 126) (n := z) (d := 1) (by decide)).symm⟩
  · exact ⟨by decide, z * 63, by omega, (Rat.divInt_mul_right (a := 63) (n := z) (d := 2) (by decide)).symm⟩
  · exact ⟨by decide, z * 42, by omega, (Rat.divInt_mul_right (a := 42) (n := z) (d := 3) (by decide)).symm⟩
  · exact ⟨by decide, z * 18, by omega, (Rat.divInt_mul_right (a := 18) (n := z) (d := 7) (by decide)).symm⟩
theorem lam_ok {fuel n : Nat} {ds : List D} (hm : MugL ds) (hn : n ≤ 1000) (hf : 2 ^ 8000 ≤ fuel) : ∃ (rs : List Rat) (ds' : List D), m__law_amounts fuel [.mug, .int n] (some ds) = some (.ok (.fz (.tup (rs.map frD))), some ds') ∧ MugL ds' ∧ rs.length = n ∧ ∀ a ∈ rs, Dz 126 11 a := by
  have f7 : 7 < fuel := Nat.lt_of_lt_of_le (Nat.lt_of_lt_of_le (show 7 < 2 ^ 10 by decide) (pw_le (by decide))) hf
  obtain ⟨out, mu', e, hl, hp, ds', rfl, hm'⟩ := lcL_inv (put := fun d rho => some (rho.set 2 (.va d))) (t := bYes) (f := eOwn (m__law_low fuel) (aLen 2 (aCons (eBin subI (eOwn m__law_sip (aLen 2 (aCons (eVar 0) (aCons (eC (.int 19)) aNil)))) (eC (.int 9))) (aCons (eOwn m__law_pick (aLen 2 (aCons (eVar 0) (aCons (eCall mLst (aCons (eC (.int 1)) (aCons (eC (.int 1)) (aCons (eC (.int 1)) (aCons (eC (.int 2)) (aCons (eC (.int 3)) (aCons (eC (.int 7)) aNil))))))) aNil)))) aNil)))) (rho := [.va .mug, .va (.int n), .no]) (I := fun mu => ∃ ds, mu = some ds ∧ MugL ds) (P := fun d => ∃ r, d = frD r ∧ Dz 126 11 r) (ds := upI 0 n) (acc := []) (mu := some ds) (fun d hd mu ⟨ds, hmu, hm⟩ => by
    subst hmu
    obtain ⟨r, ds1, e1, hm1, r0, r1⟩ := sip_ok (top := 19) hm (by decide) (by decide)
    obtain ⟨b, ds2, e2, hm2, hb⟩ := pick_ok (xs := [.int 1, .int 1, .int 1, .int 2, .int 3, .int 7]) hm1 (by simp) (by decide)
    obtain ⟨b, hb2, rfl⟩ : ∃ c : Int, (c = 1 ∨ c = 2 ∨ c = 3 ∨ c = 7) ∧ b = .int c := by
      simp only [List.mem_cons, List.not_mem_nil, or_false] at hb
      rcases hb with rfl | rfl | rfl | rfl | rfl | rfl
      · exact ⟨1, by decide, rfl⟩
      · exact ⟨1, by decide, rfl⟩
      · exact ⟨1, by decide, rfl⟩
      · exact ⟨2, by decide, rfl⟩
      · exact ⟨3, by decide, rfl⟩
      · exact ⟨7, by decide, rfl⟩
    have b7 : b.natAbs ≤ 7 := by omega
    have lo := low_ok (fuel := fuel) (p := r - 9) (q := b) (mu := some ds2) (by omega) (by omega) (Nat.lt_of_le_of_lt b7 (Nat.lt_of_lt_of_le (show 7 < 2 ^ 10 by decide) (pw_le (by decide))))
    refine ⟨[.va .mug, .va (.int n), .va d], .fz (frD (Rat.divInt (r - 9) b)), some ds2, rfl, rfl, ?_, ⟨ds2, rfl, hm2⟩, _, rfl, dz_am (by omega) hb2⟩
    refine own_ok (args2 (v := .fz (.int (r - 9))) (w := .fz (.int b)) (mu1 := some ds1) (mu2 := some ds2) ?_ ?_) rfl lo
    · exact bin_ok (v := .fz (.int r)) (w := .fz (.int 9)) (mu1 := some ds1) (own_ok (args2 (v := .fz .mug) (w := .fz (.int 19)) (mu1 := some ds) rfl rfl) rfl e1) rfl rfl
    · exact own_ok (args2 (v := .fz .mug) (w := .fr [.int 1, .int 1, .int 1, .int 2, .int 3, .int 7]) (mu1 := some ds1) rfl rfl) rfl e2) ⟨ds, rfl, hm⟩ (by rw [upI_len]; simp only [List.length_nil]; omega)
  obtain ⟨rs, rfl, hr⟩ := as_frs hp
  rw [List.length_map, upI_len] at hl
  refine ⟨rs, ds', ?_, hm', hl, hr⟩
  unfold m__law_amounts b__law_amounts
  refine fnM_of (rho0 := [.va .mug, .va (.int n), .no]) (rho' := [.va .mug, .va (.int n), .no]) rfl ?_
  refine ret_ok (v := .fz (.tup (rs.map frD))) ?_
  refine bi_ok (args1 (v := .fr (rs.map frD)) (lcR_ok (rg := rng1) (vs := [2]) (args := [.int n]) (mu1 := some ds) rfl (lo := 0) (n := n) (rng1_ok (by omega)) e)) rfl
end Ev
end
section
set_option Elab.async false
set_option linter.all false
set_option maxRecDepth 100000
set_option exponentiation.threshold 10000
open PySem PySem.Spec PyProof.Rows L2 Mi Go
namespace Ev
abbrev siteC (fuel : Nat) : SM := (sSeq (sSet 11 (eOwn (m__law_row fuel) (aLen 3 (aCons (eIx (eVar 2) (eC (.int 0))) (aCons (eIx (eVar 2) (eC (.int 1))) (aCons (eCall mTup (aCons (eVar 10) (aCons (eC (.int 1)) aNil))) aNil))))))
    (sSeq (sSet 12 (eOwn (m__law_dot fuel) (aLen 2 (aCons (eVar 5) (aCons (eVar 11) aNil)))))
    (sSeq (sSet 13 (eMth 1 1 m_Curve_value (eMake 1 (lenI 2 i_Curve) (aLen 2 (aCons (eVar 3) (aCons (eVar 9) aNil)))) (aCons (eVar 10) aNil)))
    (sSeq (sIf (bOf (eBin neM (eCall (m1 reprM) (aCons (eCall mLst (aCons (eMth 1 1 m_Curve_value (eVar 6) (aCons (eVar 10) aNil)) (aCons (eMthK 1 1 [0] m_Curve_value (eVar 6) (aCons (eVar 10) aNil)) aNil))) aNil)) (eCall (m1 reprM) (aCons (eCall mLst (aCons (eVar 12) (aCons (eVar 12) aNil))) aNil)))) (sRet (eC (.bl false))) sNil)
    (sIf (bOf (eBin neM (eVar 13) (eOwn (m__law_plus fuel) (aLen 2 (aCons (eVar 12) (aCons (eOwn (m__law_mult fuel) (aLen 2 (aCons (eCall mTup (aCons (eC (.int 1)) (aCons (eC (.int 3)) aNil))) (aCons (eIx (eVar 11) (eVar 8)) aNil)))) aNil)))))) (sRet (eC (.bl false))) sNil)))))
abbrev bigI : SM := (sIf (bOr (bOf (eBin (orE (neO 0 m_Frame___eq__ (nfC 2)) neM) (eProp 1 m_Curve_frame (eVar 6)) (eVar 3))) (bOr (bOf (eBin neM (eProp 1 m_Curve_amounts (eVar 6)) (eVar 5))) (bOr (bNot (bOf (eBin (orE (eqO 1 m_Curve___eq__ (nfC 2)) eqM) (eVar 6) (eVar 7)))) (bOr (bOf (eBin (orE (neO 1 m_Curve___eq__ (nfC 2)) neM) (eVar 6) (eVar 7))) (bOr (bOf (eBin (orE (eqO 1 m_Curve___eq__ (nfC 2)) eqM) (eVar 6) (eVar 5))) (bNot (bTru (eCall (boolO 1 (m1 boolM)) (aCons (eVar 6) aNil))))))))) (sRet (eC (.bl false))) sNil)
abbrev bigJ : SM := (sIf (bOr (bOf (eBin (orE (eqO 1 m_Curve___eq__ (nfC 2)) eqM) (eVar 6) (eMake 1 (lenI 2 i_Curve) (aLen 2 (aCons (eVar 3) (aCons (eVar 9) aNil)))))) (bNot (bOf (eBin (orE (neO 1 m_Curve___eq__ (nfC 2)) neM) (eVar 6) (eMake 1 (lenI 2 i_Curve) (aLen 2 (aCons (eVar 3) (aCons (eVar 9) aNil)))))))) (sRet (eC (.bl false))) sNil)
abbrev othS (fuel : Nat) : SM := (sSet 9 (eBin addA (eBin addA (eSl (eVar 5) oNone (oSome (eVar 8))) (eCall mTup (aCons (eOwn (m__law_plus fuel) (aLen 2 (aCons (eIx (eVar 5) (eVar 8)) (aCons (eCall mTup (aCons (eC (.int 1)) (aCons (eC (.int 3)) aNil))) aNil)))) aNil))) (eSl (eVar 5) (oSome (eBin addA (eVar 8) (eC (.int 1)))) oNone)))
abbrev morS : SM := (sSet 13 (eMth 1 1 m_Curve_value (eMake 1 (lenI 2 i_Curve) (aLen 2 (aCons (eVar 3) (aCons (eVar 9) aNil)))) (aCons (eVar 10) aNil)))
abbrev reprI : SM := (sIf (bOf (eBin neM (eCall (m1 reprM) (aCons (eCall mLst (aCons (eMth 1 1 m_Curve_value (eVar 6) (aCons (eVar 10) aNil)) (aCons (eMthK 1 1 [0] m_Curve_value (eVar 6) (aCons (eVar 10) aNil)) aNil))) aNil)) (eCall (m1 reprM) (aCons (eCall mLst (aCons (eVar 12) (aCons (eVar 12) aNil))) aNil)))) (sRet (eC (.bl false))) sNil)
abbrev moreI (fuel : Nat) : SM := (sIf (bOf (eBin neM (eVar 13) (eOwn (m__law_plus fuel) (aLen 2 (aCons (eVar 12) (aCons (eOwn (m__law_mult fuel) (aLen 2 (aCons (eCall mTup (aCons (eC (.int 1)) (aCons (eC (.int 3)) aNil))) (aCons (eIx (eVar 11) (eVar 8)) aNil)))) aNil)))))) (sRet (eC (.bl false))) sNil)
abbrev turnC (fuel : Nat) : SM := (sSeq (sSet 2 (eOwn (m__law_draft fuel) (aLen 3 (aCons (eVar 0) (aCons (eC (.int 6)) (aCons (eOwn m__law_pick (aLen 2 (aCons (eVar 0) (aCons (eCall mLst (aCons (eC (.int 3)) (aCons (eC (.int 12)) (aCons (eBin powI (eC (.int 10)) (eC (.int 5))) aNil)))) aNil)))) aNil))))))
    (sSeq (sPar 3 4 (aCons (eOwn m__law_made (aLen 1 (aCons (eVar 2) aNil))) (aCons (eOwn m__law_hills (aLen 1 (aCons (eVar 2) aNil))) aNil)))
    (sSeq (sSet 5 (eOwn (m__law_amounts fuel) (aLen 2 (aCons (eVar 0) (aCons (eVar 4) aNil)))))
    (sSeq (sPar 6 7 (aCons (eMake 1 (lenI 2 i_Curve) (aLen 2 (aCons (eVar 3) (aCons (eVar 5) aNil)))) (aCons (eMakeK 1 (lenI 2 i_Curve) [1, 0] 2 (aCons (eVar 5) (aCons (eOwn m__law_made (aLen 1 (aCons (eVar 2) aNil))) aNil))) aNil)))
    (sSeq (sIf (bOr (bOf (eBin (orE (neO 0 m_Frame___eq__ (nfC 2)) neM) (eProp 1 m_Curve_frame (eVar 6)) (eVar 3))) (bOr (bOf (eBin neM (eProp 1 m_Curve_amounts (eVar 6)) (eVar 5))) (bOr (bNot (bOf (eBin (orE (eqO 1 m_Curve___eq__ (nfC 2)) eqM) (eVar 6) (eVar 7)))) (bOr (bOf (eBin (orE (neO 1 m_Curve___eq__ (nfC 2)) neM) (eVar 6) (eVar 7))) (bOr (bOf (eBin (orE (eqO 1 m_Curve___eq__ (nfC 2)) eqM) (eVar 6) (eVar 5))) (bNot (bTru (eCall (boolO 1 (m1 boolM)) (aCons (eVar 6) aNil))))))))) (sRet (eC (.bl false))) sNil)
    (sSeq (sSet 8 (eOwn m__law_sip (aLen 2 (aCons (eVar 0) (aCons (eVar 4) aNil)))))
    (sSeq (sSet 9 (eBin addA (eBin addA (eSl (eVar 5) oNone (oSome (eVar 8))) (eCall mTup (aCons (eOwn (m__law_plus fuel) (aLen 2 (aCons (eIx (eVar 5) (eVar 8)) (aCons (eCall mTup (aCons (eC (.int 1)) (aCons (eC (.int 3)) aNil))) aNil)))) aNil))) (eSl (eVar 5) (oSome (eBin addA (eVar 8) (eC (.int 1)))) oNone)))
    (sSeq (sIf (bOr (bOf (eBin (orE (eqO 1 m_Curve___eq__ (nfC 2)) eqM) (eVar 6) (eMake 1 (lenI 2 i_Curve) (aLen 2 (aCons (eVar 3) (aCons (eVar 9) aNil)))))) (bNot (bOf (eBin (orE (neO 1 m_Curve___eq__ (nfC 2)) neM) (eVar 6) (eMake 1 (lenI 2 i_Curve) (aLen 2 (aCons (eVar 3) (aCons (eVar 9) aNil)))))))) (sRet (eC (.bl false))) sNil)
    (sFor anyD (eOwn m__law_sites (aLen 3 (aCons (eVar 0) (aCons (eVar 2) (aCons (eC (.int 6)) aNil))))) (sBody (fun d rho => some (rho.set 10 (.va d))) (sSeq (sSet 11 (eOwn (m__law_row fuel) (aLen 3 (aCons (eIx (eVar 2) (eC (.int 0))) (aCons (eIx (eVar 2) (eC (.int 1))) (aCons (eCall mTup (aCons (eVar 10) (aCons (eC (.int 1)) aNil))) aNil))))))
    (sSeq (sSet 12 (eOwn (m__law_dot fuel) (aLen 2 (aCons (eVar 5) (aCons (eVar 11) aNil)))))
    (sSeq (sSet 13 (eMth 1 1 m_Curve_value (eMake 1 (lenI 2 i_Curve) (aLen 2 (aCons (eVar 3) (aCons (eVar 9) aNil)))) (aCons (eVar 10) aNil)))
    (sSeq (sIf (bOf (eBin neM (eCall (m1 reprM) (aCons (eCall mLst (aCons (eMth 1 1 m_Curve_value (eVar 6) (aCons (eVar 10) aNil)) (aCons (eMthK 1 1 [0] m_Curve_value (eVar 6) (aCons (eVar 10) aNil)) aNil))) aNil)) (eCall (m1 reprM) (aCons (eCall mLst (aCons (eVar 12) (aCons (eVar 12) aNil))) aNil)))) (sRet (eC (.bl false))) sNil)
    (sIf (bOf (eBin neM (eVar 13) (eOwn (m__law_plus fuel) (aLen 2 (aCons (eVar 12) (aCons (eOwn (m__law_mult fuel) (aLen 2 (aCons (eCall mTup (aCons (eC (.int 1)) (aCons (eC (.int 3)) aNil))) (aCons (eIx (eVar 11) (eVar 8)) aNil)))) aNil)))))) (sRet (eC (.bl false))) sNil)))))))))))))))
abbrev DrD (g : Nat) (ts : List Int) : D := .lst [.int g, .tup (ts.map .int)]
abbrev rk (a dr fr m am bo sa k ot b c d e : Slot) : List Slot := [.va .mug, a, dr, fr, m, am, bo, sa, k, ot, b, c, d, e]
abbrev c3 : Rat := Rat.divInt 1 3
theorem third : frD c3 = .tup [.int 1, .int 3] := frD_of (by decide +kernel) (by decide +kernel)
theorem c3_ne : c3 ≠ 0 := by decide +kernel
theorem c3_dz : Dz 126 11 c3 := ⟨by decide, 42, by decide, (Rat.divInt_mul_right (a := 42) (n := 1) (d := 3) (by decide)).symm⟩
theorem c3_sm : Sm 2 c3 := ⟨by decide +kernel, by decide +kernel⟩
theorem mth_ok {c n : Nat} {fm : FM} {f : EM} {ag : AM} {rho : List Slot} {mu mu1 mu2 mu3 : Mu} {fs ds : List D} {v : Vl} (h1 : f rho mu = some (.ok (.fz (.ins c fs)), mu1)) (h2 : ag rho mu1 = some (.ok ds, mu2)) (hl : ds.length = n) (h3 : fm (.ins c fs :: ds) mu2 = some (.ok v, mu3)) : eMth c n fm f ag rho mu = some (.ok v, mu3) := by
  simp [eMth, M.bind, h1, insC, Vl.d, h2, hl, h3, M.pure]
theorem mthK_ok {c n : Nat} {pm : List Nat} {fm : FM} {f : EM} {ag : AM} {rho : List Slot} {mu mu1 mu2 mu3 : Mu} {fs ds es : List D} {v : Vl} (h1 : f rho mu = some (.ok (.fz (.ins c fs)), mu1)) (h2 : ag rho mu1 = some (.ok ds, mu2)) (hl : ds.length = n) (he : reK pm ds = es) (h3 : fm (.ins c fs :: es) mu2 = some (.ok v, mu3)) : eMthK c n pm fm f ag rho mu = some (.ok v, mu3) := by
  simp [eMthK, M.bind, h1, insC, Vl.d, h2, hl, he, h3, M.pure]
theorem not_ok {t : BM} {rho : List Slot} {mu mu1 : Mu} {b : Bool} (h : t rho mu = some (.ok b, mu1)) : bNot t rho mu = some (.ok (!b), mu1) := by
  simp [bNot, M.bind, h, M.pure]
theorem get_fr {rs : List Rat} {k : Nat} (h : k < rs.length) : atI (rs.map frD) (k : Int) = some (frD rs[k]!) := by
  rw [atI_nat (by rw [List.length_map]; exact h), List.getElem_map, getElem!_pos rs k h]
theorem cat_tups {a b : List D} (h : a.length + b.length ≤ 100000) : addA (.tup a) (.tup b) = some (.fz (.tup (a ++ b))) := by
  simp [addA, Mi.orM, addI, catL, catT, h]
section
variable {fuel : Nat} {ts : List Int} {g k : Nat} {rs : List Rat} {mu : Mu} {a dr fr m am bo sa kk ot b c d e : Slot}
theorem bigI_ok : bigI (rk a dr (.va (FrmD g ts)) m (.va (.tup (rs.map frD))) (.va (CurD g ts rs)) (.va (CurD g ts rs)) kk ot b c d e) mu = some (.fl .nx (rk a dr (.va (FrmD g ts)) m (.va (.tup (rs.map frD))) (.va (CurD g ts rs)) (.va (CurD g ts rs)) kk ot b c d e), mu) := by
  have n2 := ne_frs rs rs
  rw [decide_eq_true rfl] at n2
  have n3 := oeq_cc (g := g) (ts := ts) (rs := rs) (ss := rs)
  rw [decide_eq_true rfl] at n3
  have n4 := one_cc (g := g) (ts := ts) (rs := rs) (ss := rs)
  rw [decide_eq_true rfl] at n4
  unfold bigI
  rw [if_f (bor_ff (mu1 := mu) (mu2 := mu) (test_ok (v := .fz (FrmD g ts)) (w := .fz (FrmD g ts)) (mu1 := mu) rfl rfl one_ff)
    (bor_ff (mu1 := mu) (test_ok (v := .fz (.tup (rs.map frD))) (w := .fz (.tup (rs.map frD))) (mu1 := mu) rfl rfl n2)
    (bor_ff (mu1 := mu) (not_ok (b := true) (test_ok (v := .fz (CurD g ts rs)) (w := .fz (CurD g ts rs)) (mu1 := mu) rfl rfl n3))
    (bor_ff (mu1 := mu) (test_ok (v := .fz (CurD g ts rs)) (w := .fz (CurD g ts rs)) (mu1 := mu) rfl rfl n4)
    (bor_ff (mu1 := mu) (test_ok (v := .fz (CurD g ts rs)) (w := .fz (.tup (rs.map frD))) (mu1 := mu) rfl rfl oeq_ct) rfl)))))]
  rfl
theorem oth_ok (hk : k < rs.length) (hl : rs.length ≤ 100) (ha : ∀ a ∈ rs, Dz 126 11 a) (hf : 2 ^ 8000 ≤ fuel) : othS fuel (rk a dr fr m (.va (.tup (rs.map frD))) bo sa (.va (.int k)) ot b c d e) mu = some (.fl .nx (rk a dr fr m (.va (.tup (rs.map frD))) bo sa (.va (.int k)) (.va (.tup ((otherL c3 k rs).map frD))) b c d e), mu) := by
  have ak := ha rs[k]! (by rw [getElem!_pos rs k hk]; exact List.getElem_mem hk)
  have pl := plus_ok (mu := mu) (n := 2000) (am_sm (ak.up (by decide))) (c3_sm.up (by decide)) (by decide) hf
  rw [third] at pl
  have e1 : eSl (eVar 5) oNone (oSome (eVar 8)) (rk a dr fr m (.va (.tup (rs.map frD))) bo sa (.va (.int k)) ot b c d e) mu = some (.ok (.fz (.tup ((rs.take k).map frD))), mu) := by
    show some (Out.ok (Vl.fz (.tup (Mi.cutD (rs.map frD) none (some (k : Int))))), mu) = _
    rw [cut_take (by rw [List.length_map]; omega), List.map_take]
  have e3 : eSl (eVar 5) (oSome (eBin addA (eVar 8) (eC (.int 1)))) oNone (rk a dr fr m (.va (.tup (rs.map frD))) bo sa (.va (.int k)) ot b c d e) mu = some (.ok (.fz (.tup ((rs.drop (k + 1)).map frD))), mu) := by
    show some (Out.ok (Vl.fz (.tup (Mi.cutD (rs.map frD) (some ((k + 1 : Nat) : Int)) none))), mu) = _
    rw [cut_drop (by rw [List.length_map]; omega), List.map_drop]
  have e2 : eCall mTup (aCons (eOwn (m__law_plus fuel) (aLen 2 (aCons (eIx (eVar 5) (eVar 8)) (aCons (eCall mTup (aCons (eC (.int 1)) (aCons (eC (.int 3)) aNil))) aNil)))) aNil) (rk a dr fr m (.va (.tup (rs.map frD))) bo sa (.va (.int k)) ot b c d e) mu = some (.ok (.fz (.tup [frD (rs[k]! + c3)])), mu) := by
    refine bi_ok (args1 (own_ok (args2 (v := .fz (frD rs[k]!)) (w := .fz (.tup [.int 1, .int 3])) (mu1 := mu) (mu2 := mu) (ix_ok (v := .fz (.tup (rs.map frD))) (w := .fz (.int k)) (mu1 := mu) rfl rfl ?_) rfl) rfl pl)) rfl
    show (atI (rs.map frD) (k : Int)).map Vl.fz = _
    rw [get_fr hk]
    rfl
  have c1 : addA (.tup ((rs.take k).map frD)) (.tup [frD (rs[k]! + c3)]) = some (.fz (.tup ((rs.take k).map frD ++ [frD (rs[k]! + c3)]))) := by
    exact cat_tups (by rw [List.length_map, List.length_take]; simp only [List.length_cons, List.length_nil]; omega)
  have c2 : addA (.tup ((rs.take k).map frD ++ [frD (rs[k]! + c3)])) (.tup ((rs.drop (k + 1)).map frD)) = some (.fz (.tup ((otherL c3 k rs).map frD))) := by
    have : (rs.take k).map frD ++ [frD (rs[k]! + c3)] ++ (rs.drop (k + 1)).map frD = (otherL c3 k rs).map frD := by
      unfold otherL
      simp
    rw [← this]
    exact cat_tups (by simp only [List.length_append, List.length_map, List.length_take, List.length_drop, List.length_cons, List.length_nil]; omega)
  exact set_ok (bin_ok (bin_ok e1 e2 c1) e3 c2)
theorem bigJ_ok (F : Frm g ts) (hr : rs.length = ts.length - g - 1) (hk : k < rs.length) : bigJ (rk a dr (.va (FrmD g ts)) m am (.va (CurD g ts rs)) sa kk (.va (.tup ((otherL c3 k rs).map frD))) b c d e) mu = some (.fl .nx (rk a dr (.va (FrmD g ts)) m am (.va (CurD g ts rs)) sa kk (.va (.tup ((otherL c3 k rs).map frD))) b c d e), mu) := by
  have mk := cmake_ok (f := aCons (eVar 3) (aCons (eVar 9) aNil)) (rho := rk a dr (.va (FrmD g ts)) m am (.va (CurD g ts rs)) sa kk (.va (.tup ((otherL c3 k rs).map frD))) b c d e) (mu := mu) (mu' := mu) (rs := otherL c3 k rs) F (by rw [other_len hk]; exact hr) rfl
  have ne : rs ≠ otherL c3 k rs := (other_ne c3_ne rs k hk).symm
  have n3 := oeq_cc (g := g) (ts := ts) (rs := rs) (ss := otherL c3 k rs)
  rw [decide_eq_false ne] at n3
  have n4 := one_cc (g := g) (ts := ts) (rs := rs) (ss := otherL c3 k rs)
  rw [decide_eq_false ne] at n4
  unfold bigJ
  rw [if_f (bor_ff (mu1 := mu) (mu2 := mu) (test_ok (v := .fz (CurD g ts rs)) (w := .fz (CurD g ts (otherL c3 k rs))) (mu1 := mu) rfl mk n3) (not_ok (b := true) (test_ok (v := .fz (CurD g ts rs)) (w := .fz (CurD g ts (otherL c3 k rs))) (mu1 := mu) rfl mk n4)))]
  rfl
theorem other_dz (hk : k < rs.length) (ha : ∀ a ∈ rs, Dz 126 11 a) : ∀ a ∈ otherL c3 k rs, Dz 126 12 a := fun z hz => by
  have ak := ha rs[k]! (by rw [getElem!_pos rs k hk]; exact List.getElem_mem hk)
  unfold otherL at hz
  rcases List.mem_append.mp hz with y | y
  · exact (ha z (List.mem_of_mem_take y)).up (by decide)
  · rcases List.mem_cons.mp y with y | y
    · rw [y]
      exact ak.add c3_dz
    · exact (ha z (List.mem_of_mem_drop y)).up (by decide)
theorem siteC_ok {x : Int} (F : Frm g ts) (hl : ts.length ≤ g + 7) (hx0 : 0 ≤ x) (hx : x ≤ 1000000) (hf : 2 ^ 8000 ≤ fuel) (hr : rs.length = ts.length - g - 1) (hk : k < rs.length) (ha : ∀ a ∈ rs, Dz 126 11 a) :
    ∃ c' d' e', siteC fuel (rk a (.va (DrD g ts)) (.va (FrmD g ts)) m (.va (.tup (rs.map frD))) (.va (CurD g ts rs)) sa (.va (.int k)) (.va (.tup ((otherL c3 k rs).map frD))) (.va (.int x)) c d e) mu
     = some (.fl .nx (rk a (.va (DrD g ts)) (.va (FrmD g ts)) m (.va (.tup (rs.map frD))) (.va (CurD g ts rs)) sa (.va (.int k)) (.va (.tup ((otherL c3 k rs).map frD))) (.va (.int x)) c' d' e'), mu) := by
  have l := F.len
  have g4 := F.g4
  have bd := frm_bd F
  have hb4 := hb_le g g4
  have ha12 : ∀ a ∈ rs, Dz 126 12 a := fun a h => (ha a h).up (by decide)
  have rw1 := row_ok (fuel := fuel) (ts := ts) (p := x) (q := 1) (g := g) (mu := mu) (by decide) (by decide) (by omega) bd g4 (by omega) (by omega) hf
  have rm := row_map (ts := ts) (x := x) (g := g)
  have dt := ldot_ok (mu := mu) hf F hl hx0 hx hr ha12
  have cv := cvalue_ok (mu := mu) F hl hx0 hx hr ha12
  have co := cvalue_ok (mu := mu) (rs := otherL c3 k rs) F hl hx0 hx (by rw [other_len hk]; exact hr) (other_dz hk ha)
  have sm := dot_sm F hl hx0 hx hr ha12
  have dk := dot_other c3 rs (rowR ts x g) k 0 hk (by rw [row_len]; omega)
  rw [dk] at co
  have hh : (rowR ts x g)[k]! = hill ts x 1 g k := by
    rw [getElem!_pos (rowR ts x g) k (by rw [row_len]; omega), List.getElem_map, List.getElem_range]
  have shk := (sm_hill (ts := ts) (p := x) (q := 1) (by decide) (by decide) (by omega) bd g k).up hb4
  rw [← hh] at shk
  generalize hV : dotR rs (rowR ts x g) 0 = V at *
  have ml := mult_ok (mu := mu) (n := 2000) (c3_sm.up (by decide)) (shk.up (by decide)) (by decide) hf
  have pl := plus_ok (mu := mu) (n := 2000) (sm.up (by decide)) ((sm_mul c3_sm shk).up (by decide)) (by decide) hf
  rw [third] at ml
  obtain ⟨z, rp⟩ := repr_list (rs := [V, V]) (fun r hr => by
    simp only [List.mem_cons, List.not_mem_nil, or_false, or_self] at hr
    rw [hr]
    exact sm) (by simp)
  have gk := get_fr (rs := rowR ts x g) (k := k) (by rw [row_len]; omega)
  refine ⟨.va (.lst (rowD ts x g)), .va (frD V), .va (frD (V + c3 * (rowR ts x g)[k]!)), ?_⟩
  have s11 : sSet 11 (eOwn (m__law_row fuel) (aLen 3 (aCons (eIx (eVar 2) (eC (.int 0))) (aCons (eIx (eVar 2) (eC (.int 1))) (aCons (eCall mTup (aCons (eVar 10) (aCons (eC (.int 1)) aNil))) aNil))))) (rk a (.va (DrD g ts)) (.va (FrmD g ts)) m (.va (.tup (rs.map frD))) (.va (CurD g ts rs)) sa (.va (.int k)) (.va (.tup ((otherL c3 k rs).map frD))) (.va (.int x)) c d e) mu
      = some (.fl .nx (rk a (.va (DrD g ts)) (.va (FrmD g ts)) m (.va (.tup (rs.map frD))) (.va (CurD g ts rs)) sa (.va (.int k)) (.va (.tup ((otherL c3 k rs).map frD))) (.va (.int x)) (.va (.lst (rowD ts x g))) d e), mu) := by
    refine set_ok (own_ok (ds := [.int g, .tup (ts.map .int), .tup [.int x, .int 1]]) (mu1 := mu) ?_ rfl rw1)
    rfl
  rw [← rm] at dt gk
  have s12 : sSet 12 (eOwn (m__law_dot fuel) (aLen 2 (aCons (eVar 5) (aCons (eVar 11) aNil)))) (rk a (.va (DrD g ts)) (.va (FrmD g ts)) m (.va (.tup (rs.map frD))) (.va (CurD g ts rs)) sa (.va (.int k)) (.va (.tup ((otherL c3 k rs).map frD))) (.va (.int x)) (.va (.lst (rowD ts x g))) d e) mu
      = some (.fl .nx (rk a (.va (DrD g ts)) (.va (FrmD g ts)) m (.va (.tup (rs.map frD))) (.va (CurD g ts rs)) sa (.va (.int k)) (.va (.tup ((otherL c3 k rs).map frD))) (.va (.int x)) (.va (.lst (rowD ts x g))) (.va (frD V)) e), mu) :=
    set_ok (own_ok (ds := [.tup (rs.map frD), .lst (rowD ts x g)]) (mu1 := mu) rfl rfl dt)
  have s13 : morS (rk a (.va (DrD g ts)) (.va (FrmD g ts)) m (.va (.tup (rs.map frD))) (.va (CurD g ts rs)) sa (.va (.int k)) (.va (.tup ((otherL c3 k rs).map frD))) (.va (.int x)) (.va (.lst (rowD ts x g))) (.va (frD V)) e) mu
      = some (.fl .nx (rk a (.va (DrD g ts)) (.va (FrmD g ts)) m (.va (.tup (rs.map frD))) (.va (CurD g ts rs)) sa (.va (.int k)) (.va (.tup ((otherL c3 k rs).map frD))) (.va (.int x)) (.va (.lst (rowD ts x g))) (.va (frD V)) (.va (frD (V + c3 * (rowR ts x g)[k]!)))), mu) :=
    set_ok (mth_ok (mu1 := mu) (mu2 := mu) (ds := [.int x]) (cmake_ok (rs := otherL c3 k rs) F (by rw [other_len hk]; exact hr) rfl) rfl rfl co)
  have s14 : reprI (rk a (.va (DrD g ts)) (.va (FrmD g ts)) m (.va (.tup (rs.map frD))) (.va (CurD g ts rs)) sa (.va (.int k)) (.va (.tup ((otherL c3 k rs).map frD))) (.va (.int x)) (.va (.lst (rowD ts x g))) (.va (frD V)) (.va (frD (V + c3 * (rowR ts x g)[k]!)))) mu
      = some (.fl .nx (rk a (.va (DrD g ts)) (.va (FrmD g ts)) m (.va (.tup (rs.map frD))) (.va (CurD g ts rs)) sa (.va (.int k)) (.va (.tup ((otherL c3 k rs).map frD))) (.va (.int x)) (.va (.lst (rowD ts x g))) (.va (frD V)) (.va (frD (V + c3 * (rowR ts x g)[k]!)))), mu) := by
    unfold reprI
    have q1 : eMth 1 1 m_Curve_value (eVar 6) (aCons (eVar 10) aNil) (rk a (.va (DrD g ts)) (.va (FrmD g ts)) m (.va (.tup (rs.map frD))) (.va (CurD g ts rs)) sa (.va (.int k)) (.va (.tup ((otherL c3 k rs).map frD))) (.va (.int x)) (.va (.lst (rowD ts x g))) (.va (frD V)) (.va (frD (V + c3 * (rowR ts x g)[k]!)))) mu = some (.ok (.fz (frD V)), mu) := mth_ok (mu1 := mu) (mu2 := mu) (ds := [.int x]) rfl rfl rfl cv
    have q2 : eMthK 1 1 [0] m_Curve_value (eVar 6) (aCons (eVar 10) aNil) (rk a (.va (DrD g ts)) (.va (FrmD g ts)) m (.va (.tup (rs.map frD))) (.va (CurD g ts rs)) sa (.va (.int k)) (.va (.tup ((otherL c3 k rs).map frD))) (.va (.int x)) (.va (.lst (rowD ts x g))) (.va (frD V)) (.va (frD (V + c3 * (rowR ts x g)[k]!)))) mu = some (.ok (.fz (frD V)), mu) := mthK_ok (mu1 := mu) (mu2 := mu) (ds := [.int x]) (es := [.int x]) rfl rfl rfl rfl cv
    have q3 := bi_ok (m := m1 reprM) (args1 (v := .fr [frD V, frD V]) (bi_ok (m := mLst) (args2 q1 q2) rfl)) rp
    rw [if_f (tst_ne (s := z) q3 (bi_ok (m := m1 reprM) (mu' := mu) (args1 (v := .fr [frD V, frD V]) rfl) rp) rfl rfl)]
    rfl
  have s15 : moreI fuel (rk a (.va (DrD g ts)) (.va (FrmD g ts)) m (.va (.tup (rs.map frD))) (.va (CurD g ts rs)) sa (.va (.int k)) (.va (.tup ((otherL c3 k rs).map frD))) (.va (.int x)) (.va (.lst (rowD ts x g))) (.va (frD V)) (.va (frD (V + c3 * (rowR ts x g)[k]!)))) mu
      = some (.fl .nx (rk a (.va (DrD g ts)) (.va (FrmD g ts)) m (.va (.tup (rs.map frD))) (.va (CurD g ts rs)) sa (.va (.int k)) (.va (.tup ((otherL c3 k rs).map frD))) (.va (.int x)) (.va (.lst (rowD ts x g))) (.va (frD V)) (.va (frD (V + c3 * (rowR ts x g)[k]!)))), mu) := by
    have nf := ne_fr (V + c3 * (rowR ts x g)[k]!) (V + c3 * (rowR ts x g)[k]!)
    rw [decide_eq_true rfl] at nf
    unfold moreI
    have q1 : eIx (eVar 11) (eVar 8) (rk a (.va (DrD g ts)) (.va (FrmD g ts)) m (.va (.tup (rs.map frD))) (.va (CurD g ts rs)) sa (.va (.int k)) (.va (.tup ((otherL c3 k rs).map frD))) (.va (.int x)) (.va (.lst (rowD ts x g))) (.va (frD V)) (.va (frD (V + c3 * (rowR ts x g)[k]!)))) mu = some (.ok (.fz (frD (rowR ts x g)[k]!)), mu) := by
      refine ix_ok (v := .fz (.lst (rowD ts x g))) (w := .fz (.int k)) (mu1 := mu) rfl rfl ?_
      show (atI (rowD ts x g) (k : Int)).map Vl.fz = _
      rw [gk]
      rfl
    have q2 : eOwn (m__law_mult fuel) (aLen 2 (aCons (eCall mTup (aCons (eC (.int 1)) (aCons (eC (.int 3)) aNil))) (aCons (eIx (eVar 11) (eVar 8)) aNil))) (rk a (.va (DrD g ts)) (.va (FrmD g ts)) m (.va (.tup (rs.map frD))) (.va (CurD g ts rs)) sa (.va (.int k)) (.va (.tup ((otherL c3 k rs).map frD))) (.va (.int x)) (.va (.lst (rowD ts x g))) (.va (frD V)) (.va (frD (V + c3 * (rowR ts x g)[k]!)))) mu = some (.ok (.fz (frD (c3 * (rowR ts x g)[k]!))), mu) := own_ok (args2 (v := .fz (.tup [.int 1, .int 3])) (mu1 := mu) rfl q1) rfl ml
    have q3 : eOwn (m__law_plus fuel) (aLen 2 (aCons (eVar 12) (aCons (eOwn (m__law_mult fuel) (aLen 2 (aCons (eCall mTup (aCons (eC (.int 1)) (aCons (eC (.int 3)) aNil))) (aCons (eIx (eVar 11) (eVar 8)) aNil)))) aNil))) (rk a (.va (DrD g ts)) (.va (FrmD g ts)) m (.va (.tup (rs.map frD))) (.va (CurD g ts rs)) sa (.va (.int k)) (.va (.tup ((otherL c3 k rs).map frD))) (.va (.int x)) (.va (.lst (rowD ts x g))) (.va (frD V)) (.va (frD (V + c3 * (rowR ts x g)[k]!)))) mu = some (.ok (.fz (frD (V + c3 * (rowR ts x g)[k]!))), mu) := own_ok (args2 (v := .fz (frD V)) (mu1 := mu) rfl q2) rfl pl
    rw [if_f (test_ok (v := .fz (frD (V + c3 * (rowR ts x g)[k]!))) (mu1 := mu) rfl q3 nf)]
    rfl
  unfold siteC
  rw [seq_nx s11, seq_nx s12, seq_nx s13, seq_nx s14]
  exact s15
end
end Ev
end
section
set_option Elab.async false
set_option linter.all false
set_option maxRecDepth 100000
set_option exponentiation.threshold 10000
open PySem PySem.Spec PyProof.Rows L2 Mi Go
namespace Ev
def GoodK (rho : List Slot) (mu : Mu) : Prop := ∃ ds, mu = some ds ∧ MugL ds ∧ ∃ a dr fr m am bo sa k ot b c d e, rho = rk a dr fr m am bo sa k ot b c d e
theorem turnC_ok {fuel : Nat} {rho : List Slot} {mu : Mu} (hf : 2 ^ 8000 ≤ fuel) (G : GoodK rho mu) : ∃ rho' mu', turnC fuel rho mu = some (.fl .nx rho', mu') ∧ GoodK rho' mu' := by
  obtain ⟨ds, rfl, hm, a, dr, fr, m, am, bo, sa, kk, ot, b, c, d, e, rfl⟩ := G
  obtain ⟨mo, ds1, e1, hm1, hmo⟩ := pick_ok (xs := [.int 3, .int 12, .int 100000]) hm (by simp) (by decide)
  obtain ⟨most, hmo2, rfl⟩ : ∃ most : Int, (3 ≤ most ∧ most ≤ 100000) ∧ mo = .int most := by
    simp only [List.mem_cons, List.not_mem_nil, or_false] at hmo
    rcases hmo with rfl | rfl | rfl
    · exact ⟨3, by decide, rfl⟩
    · exact ⟨12, by decide, rfl⟩
    · exact ⟨100000, by decide, rfl⟩
  have big : 1000 ≤ fuel := Nat.le_trans (Nat.le_trans (by decide : 1000 ≤ 2 ^ 10) (pw_le (by decide))) hf
  obtain ⟨g, ts, ds2, e2, hm2, dw⟩ := draft_ok (fuel := fuel) (mh := 6) (most := most) hm1 (by decide) (by decide) (by omega) (by omega) big
  have F := frm_of dw (by decide) (by omega)
  have l := F.len
  have dl := dw.len
  have g4 := F.g4
  have s1 : sSet 2 (eOwn (m__law_draft fuel) (aLen 3 (aCons (eVar 0) (aCons (eC (.int 6)) (aCons (eOwn m__law_pick (aLen 2 (aCons (eVar 0) (aCons (eCall mLst (aCons (eC (.int 3)) (aCons (eC (.int 12)) (aCons (eBin powI (eC (.int 10)) (eC (.int 5))) aNil)))) aNil)))) aNil))))) (rk a dr fr m am bo sa kk ot b c d e) (some ds) = some (.fl .nx (rk a (.va (DrD g ts)) fr m am bo sa kk ot b c d e), some ds2) := by
    have p : eOwn m__law_pick (aLen 2 (aCons (eVar 0) (aCons (eCall mLst (aCons (eC (.int 3)) (aCons (eC (.int 12)) (aCons (eBin powI (eC (.int 10)) (eC (.int 5))) aNil)))) aNil))) (rk a dr fr m am bo sa kk ot b c d e) (some ds) = some (.ok (.fz (.int most)), some ds1) := own_ok (args2 (v := .fz .mug) (w := .fr [.int 3, .int 12, .int 100000]) (mu1 := some ds) (mu2 := some ds) rfl rfl) rfl e1
    exact set_ok (own_ok (args3 (v := .fz .mug) (w := .fz (.int 6)) (u := .fz (.int most)) (mu1 := some ds) (mu2 := some ds) rfl rfl p) rfl e2)
  have s2 : sPar 3 4 (aCons (eOwn m__law_made (aLen 1 (aCons (eVar 2) aNil))) (aCons (eOwn m__law_hills (aLen 1 (aCons (eVar 2) aNil))) aNil)) (rk a (.va (DrD g ts)) fr m am bo sa kk ot b c d e) (some ds2) = some (.fl .nx (rk a (.va (DrD g ts)) (.va (FrmD g ts)) (.va (.int ((ts.length - g - 1 : Nat) : Int))) am bo sa kk ot b c d e), some ds2) := by
    have q1 : eOwn m__law_made (aLen 1 (aCons (eVar 2) aNil)) (rk a (.va (DrD g ts)) fr m am bo sa kk ot b c d e) (some ds2) = some (.ok (.fz (FrmD g ts)), some ds2) := own_ok (mu1 := some ds2) (ds := [DrD g ts]) rfl rfl (made_ok F)
    have q2 : eOwn m__law_hills (aLen 1 (aCons (eVar 2) aNil)) (rk a (.va (DrD g ts)) fr m am bo sa kk ot b c d e) (some ds2) = some (.ok (.fz (.int ((ts.length - g - 1 : Nat) : Int))), some ds2) := own_ok (mu1 := some ds2) (ds := [DrD g ts]) rfl rfl (lhills_ok F)
    unfold sPar sWith
    rw [args2 q1 q2]
    rfl
  obtain ⟨rs, ds3, e3, hm3, hr, ha⟩ := lam_ok (fuel := fuel) (n := ts.length - g - 1) hm2 (by omega) hf
  have s3 : sSet 5 (eOwn (m__law_amounts fuel) (aLen 2 (aCons (eVar 0) (aCons (eVar 4) aNil)))) (rk a (.va (DrD g ts)) (.va (FrmD g ts)) (.va (.int ((ts.length - g - 1 : Nat) : Int))) am bo sa kk ot b c d e) (some ds2) = some (.fl .nx (rk a (.va (DrD g ts)) (.va (FrmD g ts)) (.va (.int ((ts.length - g - 1 : Nat) : Int))) (.va (.tup (rs.map frD))) bo sa kk ot b c d e), some ds3) :=
    set_ok (own_ok (args2 (v := .fz .mug) (w := .fz (.int ((ts.length - g - 1 : Nat) : Int))) (mu1 := some ds2) (mu2 := some ds2) rfl rfl) rfl e3)
  have s4 : sPar 6 7 (aCons (eMake 1 (lenI 2 i_Curve) (aLen 2 (aCons (eVar 3) (aCons (eVar 5) aNil)))) (aCons (eMakeK 1 (lenI 2 i_Curve) [1, 0] 2 (aCons (eVar 5) (aCons (eOwn m__law_made (aLen 1 (aCons (eVar 2) aNil))) aNil))) aNil)) (rk a (.va (DrD g ts)) (.va (FrmD g ts)) (.va (.int ((ts.length - g - 1 : Nat) : Int))) (.va (.tup (rs.map frD))) bo sa kk ot b c d e) (some ds3) = some (.fl .nx (rk a (.va (DrD g ts)) (.va (FrmD g ts)) (.va (.int ((ts.length - g - 1 : Nat) : Int))) (.va (.tup (rs.map frD))) (.va (CurD g ts rs)) (.va (CurD g ts rs)) kk ot b c d e), some ds3) := by
    have q1 : eMake 1 (lenI 2 i_Curve) (aLen 2 (aCons (eVar 3) (aCons (eVar 5) aNil))) (rk a (.va (DrD g ts)) (.va (FrmD g ts)) (.va (.int ((ts.length - g - 1 : Nat) : Int))) (.va (.tup (rs.map frD))) bo sa kk ot b c d e) (some ds3) = some (.ok (.fz (CurD g ts rs)), some ds3) := cmake_ok F hr rfl
    have q2 : eMakeK 1 (lenI 2 i_Curve) [1, 0] 2 (aCons (eVar 5) (aCons (eOwn m__law_made (aLen 1 (aCons (eVar 2) aNil))) aNil)) (rk a (.va (DrD g ts)) (.va (FrmD g ts)) (.va (.int ((ts.length - g - 1 : Nat) : Int))) (.va (.tup (rs.map frD))) bo sa kk ot b c d e) (some ds3) = some (.ok (.fz (CurD g ts rs)), some ds3) :=
      cmakeK_ok F hr (args2 (v := .fz (.tup (rs.map frD))) (w := .fz (FrmD g ts)) (mu1 := some ds3) rfl (own_ok (mu1 := some ds3) (ds := [DrD g ts]) rfl rfl (made_ok F)))
    unfold sPar sWith
    rw [args2 q1 q2]
    rfl
  have s5 := bigI_ok (g := g) (ts := ts) (rs := rs) (mu := some ds3) (a := a) (dr := .va (DrD g ts)) (m := .va (.int ((ts.length - g - 1 : Nat) : Int))) (kk := kk) (ot := ot) (b := b) (c := c) (d := d) (e := e)
  obtain ⟨r, ds4, e6, hm4, r0, r1⟩ := sip_ok (top := ((ts.length - g - 1 : Nat) : Int)) hm3 (by omega) (by omega)
  obtain ⟨k, rfl⟩ : ∃ k : Nat, r = (k : Int) := ⟨r.toNat, by omega⟩
  have hk : k < rs.length := by omega
  have s6 : sSet 8 (eOwn m__law_sip (aLen 2 (aCons (eVar 0) (aCons (eVar 4) aNil)))) (rk a (.va (DrD g ts)) (.va (FrmD g ts)) (.va (.int ((ts.length - g - 1 : Nat) : Int))) (.va (.tup (rs.map frD))) (.va (CurD g ts rs)) (.va (CurD g ts rs)) kk ot b c d e) (some ds3) = some (.fl .nx (rk a (.va (DrD g ts)) (.va (FrmD g ts)) (.va (.int ((ts.length - g - 1 : Nat) : Int))) (.va (.tup (rs.map frD))) (.va (CurD g ts rs)) (.va (CurD g ts rs)) (.va (.int k)) ot b c d e), some ds4) :=
    set_ok (own_ok (args2 (v := .fz .mug) (w := .fz (.int ((ts.length - g - 1 : Nat) : Int))) (mu1 := some ds3) (mu2 := some ds3) rfl rfl) rfl e6)
  have s7 := oth_ok (fuel := fuel) (k := k) (rs := rs) (mu := some ds4) (a := a) (dr := .va (DrD g ts)) (fr := .va (FrmD g ts)) (m := .va (.int ((ts.length - g - 1 : Nat) : Int))) (bo := .va (CurD g ts rs)) (sa := .va (CurD g ts rs)) (ot := ot) (b := b) (c := c) (d := d) (e := e) hk (by omega) ha hf
  have s8 := bigJ_ok (g := g) (ts := ts) (k := k) (rs := rs) (mu := some ds4) (a := a) (dr := .va (DrD g ts)) (m := .va (.int ((ts.length - g - 1 : Nat) : Int))) (am := .va (.tup (rs.map frD))) (sa := .va (CurD g ts rs)) (kk := .va (.int k)) (b := b) (c := c) (d := d) (e := e) F hr hk
  have lo0 := F.low 0 (by omega)
  have lo1 := F.low (ts.length - 1) (by omega)
  have b1 := dw.low (ts.length - 1) (by omega)
  obtain ⟨xs, ds5, e9, hm5, _, hx⟩ := sites_ok (ds := ds4) (g := g) (N := 6) (ts := ts) hm4 (by decide) (by decide) (by omega) (by omega) rfl rfl lo0.1 (F.srt 0 (ts.length - 1) (by omega) (by omega)) (by omega) (fun x hx => by
    obtain ⟨j, hj, rfl⟩ := List.mem_iff_getElem.mp hx
    have a := F.low j hj
    have b := F.srt j (ts.length - 1) (by omega) (by omega)
    rw [getElem!_pos ts j hj] at a b
    omega)
  have s9 : eOwn m__law_sites (aLen 3 (aCons (eVar 0) (aCons (eVar 2) (aCons (eC (.int 6)) aNil)))) (rk a (.va (DrD g ts)) (.va (FrmD g ts)) (.va (.int ((ts.length - g - 1 : Nat) : Int))) (.va (.tup (rs.map frD))) (.va (CurD g ts rs)) (.va (CurD g ts rs)) (.va (.int k)) (.va (.tup ((otherL c3 k rs).map frD))) b c d e) (some ds4) = some (.ok (.fz (.tup (xs.map .int))), some ds5) := own_ok (args3 (v := .fz .mug) (w := .fz (DrD g ts)) (u := .fz (.int 6)) (mu1 := some ds4) (mu2 := some ds4) (mu3 := some ds4) rfl rfl rfl) rfl e9
  obtain ⟨rho', mu', e10, rfl, b', c', d', e', rfl⟩ := forL_inv (body := sBody (fun d rho => some (rho.set 10 (.va d))) (siteC fuel)) (I := fun rho mu => mu = some ds5 ∧ ∃ b c d e, rho = rk a (.va (DrD g ts)) (.va (FrmD g ts)) (.va (.int ((ts.length - g - 1 : Nat) : Int))) (.va (.tup (rs.map frD))) (.va (CurD g ts rs)) (.va (CurD g ts rs)) (.va (.int k)) (.va (.tup ((otherL c3 k rs).map frD))) b c d e) (ds := xs.map .int) (rho := rk a (.va (DrD g ts)) (.va (FrmD g ts)) (.va (.int ((ts.length - g - 1 : Nat) : Int))) (.va (.tup (rs.map frD))) (.va (CurD g ts rs)) (.va (CurD g ts rs)) (.va (.int k)) (.va (.tup ((otherL c3 k rs).map frD))) b c d e) (mu := some ds5) (fun y hy rho mu ⟨hmu, b, c, d, e, hrho⟩ => by
      subst hmu hrho
      obtain ⟨x, hx', rfl⟩ := List.mem_map.mp hy
      have := hx x hx'
      obtain ⟨c', d', e', es⟩ := siteC_ok (x := x) (mu := some ds5) (a := a) (m := .va (.int ((ts.length - g - 1 : Nat) : Int))) (sa := .va (CurD g ts rs)) (c := c) (d := d) (e := e) F (by omega) this.1 (by omega) hf hr hk ha
      exact ⟨_, _, es, rfl, .va (.int x), c', d', e', rfl⟩) ⟨rfl, b, c, d, e, rfl⟩
  refine ⟨rk a (.va (DrD g ts)) (.va (FrmD g ts)) (.va (.int ((ts.length - g - 1 : Nat) : Int))) (.va (.tup (rs.map frD))) (.va (CurD g ts rs)) (.va (CurD g ts rs)) (.va (.int k)) (.va (.tup ((otherL c3 k rs).map frD))) b' c' d' e', some ds5, ?_, ds5, rfl, hm5, a, _, _, _, _, _, _, _, _, b', c', d', e', rfl⟩
  unfold turnC
  rw [seq_nx s1, seq_nx s2, seq_nx s3, seq_nx s4, seq_nx s5, seq_nx s6, seq_nx s7, seq_nx s8, for_ok s9 (ds := xs.map .int) rfl]
  exact e10
theorem right_ok {fuel : Nat} {ds : List D} (hm : MugL ds) (hf : 2 ^ 8000 ≤ fuel) : ∃ ds', m__law_right fuel [.mug] (some ds) = some (.ok (.fz (.bl true)), some ds') := by
  obtain ⟨rho', mu', e, ds', rfl, _, a, dr, fr, m, am, bo, sa, kk, ot, b, c, d, e1, rfl⟩ := forL_inv (body := sBody (fun d rho => some (rho.set 1 (.va d))) (turnC fuel)) (I := GoodK) (ds := upI 0 4) (rho := rk .no .no .no .no .no .no .no .no .no .no .no .no .no) (mu := some ds) (fun y hy rho mu G => by
      obtain ⟨ds, rfl, hm, a, dr, fr, m, am, bo, sa, kk, ot, b, c, d, e, rfl⟩ := G
      exact turnC_ok hf ⟨ds, rfl, hm, .va y, dr, fr, m, am, bo, sa, kk, ot, b, c, d, e, rfl⟩) ⟨ds, rfl, hm, .no, .no, .no, .no, .no, .no, .no, .no, .no, .no, .no, .no, .no, rfl⟩
  refine ⟨ds', ?_⟩
  unfold m__law_right b__law_right
  refine fnM_of (rho0 := rk .no .no .no .no .no .no .no .no .no .no .no .no .no) rfl ?_ (rho' := rk a dr fr m am bo sa kk ot b c d e1)
  rw [seq_nx (rho' := rk a dr fr m am bo sa kk ot b c d e1) (mu' := some ds') ((forR_ok (args := [.int 4]) (mu' := some ds) rfl (lo := 0) (n := 4) rfl).trans e)]
  rfl
/-! ### the law -/
abbrev roofL : List Rat := [3, 1]
theorem roof_am : ∀ a ∈ roofL, Dz 126 12 a := fun a ha => by
  simp only [List.mem_cons, List.not_mem_nil, or_false] at ha
  rcases ha with rfl | rfl
  · exact ⟨by decide, 378, by decide, by decide +kernel⟩
  · exact ⟨by decide, 126, by decide, by decide +kernel⟩
abbrev four : D := .lst [.tup [.int 3, .int 2], .tup [.int 2, .int 1], .tup [.int 0, .int 1], .tup [.int 3, .int 1]]
theorem four_ne : neM four four = some (.fz (.bl false)) := rfl
abbrev RoD : D := CurD 1 [0, 2, 4, 6] roofL
theorem law_ok {fuel : Nat} (hf : 2 ^ 8000 ≤ fuel) (ns : List Int) (hl : ns.length ≤ 63) : m_law fuel [.scr ns] none = some (.ok (.fz (.bl true)), none) := by
  have v1 := cvalue_ok (mu := none) (x := 1) (rs := roofL) ramp (by decide) (by decide) (by decide) rfl roof_am
  have v2 := cvalue_ok (mu := none) (x := 3) (rs := roofL) ramp (by decide) (by decide) (by decide) rfl roof_am
  have v3 := cvalue_ok (mu := none) (x := 6) (rs := roofL) ramp (by decide) (by decide) (by decide) rfl roof_am
  have v4 := cvalue_ok (mu := none) (x := 2) (rs := roofL) ramp (by decide) (by decide) (by decide) rfl roof_am
  rw [frD_of (r := dotR roofL (rowR [0, 2, 4, 6] 1 1) 0) (a := 3) (b := 2) (by decide +kernel) (by decide +kernel)] at v1
  rw [frD_of (r := dotR roofL (rowR [0, 2, 4, 6] 3 1) 0) (a := 2) (b := 1) (by decide +kernel) (by decide +kernel)] at v2
  rw [frD_of (r := dotR roofL (rowR [0, 2, 4, 6] 6 1) 0) (a := 0) (b := 1) (by decide +kernel) (by decide +kernel)] at v3
  rw [frD_of (r := dotR roofL (rowR [0, 2, 4, 6] 2 1) 0) (a := 3) (b := 1) (by decide +kernel) (by decide +kernel)] at v4
  have s1 : sSet 1 (eMake 1 (lenI 2 i_Curve) (aLen 2 (aCons (eMake 0 (lenI 2 i_Frame) (aLen 2 (aCons (eC (.int 1)) (aCons (eCall mTup (aCons (eC (.int 0)) (aCons (eC (.int 2)) (aCons (eC (.int 4)) (aCons (eC (.int 6)) aNil))))) aNil)))) (aCons (eCall mTup (aCons (eCall mTup (aCons (eC (.int 3)) (aCons (eC (.int 1)) aNil))) (aCons (eCall mTup (aCons (eC (.int 1)) (aCons (eC (.int 1)) aNil))) aNil))) aNil)))) [.va (.scr ns), .no, .no] none = some (.fl .nx [.va (.scr ns), .va RoD, .no], none) := by
    have q1 := make_ok (rho := [.va (.scr ns), .no, .no]) (f := aCons (eC (.int 1)) (aCons (eCall mTup (aCons (eC (.int 0)) (aCons (eC (.int 2)) (aCons (eC (.int 4)) (aCons (eC (.int 6)) aNil))))) aNil)) (mu := none) (mu' := none) ramp rfl
    exact set_ok (cmake_ok (rs := roofL) ramp rfl (args2 (w := .fz (.tup [.tup [.int 3, .int 1], .tup [.int 1, .int 1]])) q1 rfl))
  have q1 := mth_ok (c := 1) (n := 1) (f := eVar 1) (ag := aCons (eC (.int 1)) aNil) (rho := [.va (.scr ns), .va RoD, .no]) (mu := none) (mu1 := none) (mu2 := none) (ds := [.int 1]) rfl rfl rfl v1
  have q2 := mth_ok (c := 1) (n := 1) (f := eVar 1) (ag := aCons (eC (.int 3)) aNil) (rho := [.va (.scr ns), .va RoD, .no]) (mu := none) (mu1 := none) (mu2 := none) (ds := [.int 3]) rfl rfl rfl v2
  have q3 := mth_ok (c := 1) (n := 1) (f := eVar 1) (ag := aCons (eC (.int 6)) aNil) (rho := [.va (.scr ns), .va RoD, .no]) (mu := none) (mu1 := none) (mu2 := none) (ds := [.int 6]) rfl rfl rfl v3
  have q4 := mth_ok (c := 1) (n := 1) (f := eVar 1) (ag := aCons (eC (.int 2)) aNil) (rho := [.va (.scr ns), .va RoD, .no]) (mu := none) (mu1 := none) (mu2 := none) (ds := [.int 2]) rfl rfl rfl v4
  have q5 := bi_ok (m := mLst) (argc q1 (argc q2 (argc q3 (argc q4 anil_ok)))) (mlst_ok (by decide))
  generalize hR : RoD = RD at *
  unfold m_law b_law
  obtain ⟨n, hn, en⟩ : ∃ n : Nat, n ≤ 5 ∧ eCall (orC (m2 maxM) (m1 maxL)) (aCons (eC (.int 2)) (aCons (eCall (orC (m2 minM) (m1 minL)) (aCons (eCall (m1 lenD) (aCons (eVar 0) aNil)) (aCons (eC (.int 5)) aNil))) aNil)) [.va (.scr ns), .va RD, .no] none = some (.ok (.fz (.int (n : Int))), none) := by
    refine ⟨max 2 (min ns.length 5), by omega, ?_⟩
    by_cases h1 : (5 : Int) < ns.length
    · have e : max 2 (min ns.length 5) = 5 := by omega
      rw [e]
      simp [fnM, sSeq, sNil, sMug, sWith, eBin, eIx, eVar, eC, Mi.M.bind, Mi.M.pure, Mi.M.of, Mi.M.no, slotD, ixD, atI0, atI1, atI2, Vl.d, addA, Mi.orM, addI, subI, mulA, mulS, muSet, ixN, sIf, bOf, gtM, ltM, geM, leM, cmpI, blD, sSet, modA, modI, eCall, aCons, aNil, m1, intM, divA, divS, divI, sRet, aLen, eOwn, lenD, orC, m2, maxM, minM, h1, aCons]
    · by_cases h2 : (2 : Int) < ns.length
      · have e : max 2 (min ns.length 5) = ns.length := by omega
        rw [e]
        simp [fnM, sSeq, sNil, sMug, sWith, eBin, eIx, eVar, eC, Mi.M.bind, Mi.M.pure, Mi.M.of, Mi.M.no, slotD, ixD, atI0, atI1, atI2, Vl.d, addA, Mi.orM, addI, subI, mulA, mulS, muSet, ixN, sIf, bOf, gtM, ltM, geM, leM, cmpI, blD, sSet, modA, modI, eCall, aCons, aNil, m1, intM, divA, divS, divI, sRet, aLen, eOwn, lenD, orC, m2, maxM, minM, h1, h2]
      · have e : max 2 (min ns.length 5) = 2 := by omega
        rw [e]
        simp [fnM, sSeq, sNil, sMug, sWith, eBin, eIx, eVar, eC, Mi.M.bind, Mi.M.pure, Mi.M.of, Mi.M.no, slotD, ixD, atI0, atI1, atI2, Vl.d, addA, Mi.orM, addI, subI, mulA, mulS, muSet, ixN, sIf, bOf, gtM, ltM, geM, leM, cmpI, blD, sSet, modA, modI, eCall, aCons, aNil, m1, intM, divA, divS, divI, sRet, aLen, eOwn, lenD, orC, m2, maxM, minM, h1, h2]
  refine fnM_of (rho0 := [.va (.scr ns), .no, .no]) rfl ?_ (rho' := [.va (.scr ns), .va RD, .no])
  rw [seq_nx s1]
  refine (seq_nx (rho' := [.va (.scr ns), .va RD, .no]) (mu' := none) ((if_f (mu1 := none) (test_ok (mu1 := none) (w := .fr [.tup [.int 3, .int 2], .tup [.int 2, .int 1], .tup [.int 0, .int 1], .tup [.int 3, .int 1]]) q5 rfl four_ne)).trans rfl)).trans ?_
  have lk := lcU_ok (put := fun d rho => some (rho.set 2 (.va d))) (t := bYes) (f := eMug (m__law_right fuel) (eOwn m__law_mug (aLen 2 (aCons (eVar 0) (aCons (eVar 2) aNil))))) (rho := wipeR [.va (.scr ns), .va RD, .no] [2]) (mu := none) (g := fun _ => .bl true) (n := n) (fun k hk => by
    obtain ⟨ds, em, hm⟩ := mug_ok ns k
    obtain ⟨ds', er⟩ := right_ok hm hf
    refine ⟨_, .fz (.bl true), rfl, rfl, ?_, rfl⟩
    have e1 : eOwn m__law_mug (aLen 2 (aCons (eVar 0) (aCons (eVar 2) aNil))) ((wipeR [.va (.scr ns), .va RD, .no] [2]).set 2 (.va (.int k))) none = some (.ok (.fr ds), none) := own_ok (args2 (v := .fz (.scr ns)) (w := .fz (.int k)) (mu1 := none) (mu2 := none) rfl rfl) rfl em
    have sc : scDs ds = true := by
      obtain ⟨a, b, c, rfl⟩ := hm
      rfl
    unfold eMug
    simp only [e1, sc, if_true, er, scD]) (by omega)
  have lc := lcR_ok (rg := rng1) (vs := [2]) (fi := aCons (eCall (orC (m2 maxM) (m1 maxL)) (aCons (eC (.int 2)) (aCons (eCall (orC (m2 minM) (m1 minL)) (aCons (eCall (m1 lenD) (aCons (eVar 0) aNil)) (aCons (eC (.int 5)) aNil))) aNil))) aNil) (args := [.int (n : Int)]) (mu1 := none) (args1 en) (lo := 0) (n := n) (rng1_ok (by omega)) lk
  exact ret_ok (v := .fz (.bl true)) (bi_ok (args1 lc) (by
    show (listB (.lst ((List.range n).map fun _ => D.bl true))).map _ = _
    rw [show listB (.lst ((List.range n).map fun _ => D.bl true)) = _ from all_true (List.range n)]
    show some (Vl.fz (.bl (((List.range n).map fun _ => true).all id))) = _
    rw [List.all_eq_true.mpr (fun x hx => by
      obtain ⟨_, _, rfl⟩ := List.mem_map.mp hx
      rfl)]))
end Ev
end
theorem PySem.Challenge.cw_bentthrough_k08_whole_values_of_curves_holds : PySem.Challenge.rw_bentthrough_k08_whole_values_of_curves.Holds := by
  exact Go.holds fun ns h => Ev.law_ok (Nat.le_refl _) ns h
