import PyProof.Rows.All
import Wide.All
import OpenK.AllK
import Wide.FinOn
import HandS.HeadHook4
import HandS.HeadWalk
import HandS.Head2
import HandS.ExcIs
import HandS.Words
import HandS.WordsExc
import HandS.ForMost
import HandS.ExcField
import HandS.ExcInit
import HandS.NestedK
import HandS.ForExc
import HandS.Wide
import HandS.WideMore
import HandS.Defaults
import HandS.IsInst
import HandS.Style
import HandS.TupMul
import HandS.TupLe
import HandS.TupAny
import HandS.Flow
import HandS.Lambda
import HandS.Small
import HandS.ExcCtx
import HandS.Hot
import HandS.HotCalls
import HandS.RaiseFrom
import HandS.More
import HandS.Iter
import HandS.Comp
import KE.KTypeName
import KE.GoesMore
import HandS.Text
import PySem.Challenge.RW_fifthhost_k01_nets_made_and_judged
section
set_option Elab.async false
set_option linter.all false
set_option maxRecDepth 100000
set_option maxHeartbeats 4000000
/-! What the head is asked. -/
namespace Fh
open PySem PySem.Spec PyProof.Rows L2
/-- an error class that keeps what it is told for -/
def oexBH (K : PySem.W.Frag) (C : Addr) : Bool := (match K.lookup C with
    | some ⟨.type "type", _, .cls cd, sl⟩ => (match cd.mro, sl.toList with
      | .ref C' :: bm, [_, _, _, _, some (.builtin n), _] => C' == C && (n == "ValueError.__new__" && (!cd.hasDel && (cd.hasDict && PySem.HandSPX.refsVE bm)))
      | _, _ => false)
    | _ => false) && (decide (PySem.W.findIn K (.ref C) "__setattr__" = some (some (.builtin "object.__setattr__"))) && (decide (PySem.W.subIn K (.ref C) (.type "BaseException") = some true) && (decide (PySem.W.typeIn K (.ref C) = some (.type "type")) && PySem.W.keepIn K (.ref C))))
/-- an error class of the module, under top, whose __init__ keeps what -/
def clsBH (K : PySem.W.Frag) (top : Str) (x : Str) : Bool := oexBH K (He.ga K x) && (decide (PySem.W.findIn K (.ref (He.ga K x)) "what" = some none) && (decide (PySem.W.findIn K (.ref (He.ga K x)) "__init__" = some (some (.ref (He.ma K (He.ga K top) "__init__")))) &&
  decide (PySem.W.exmOne K (.ref (He.ga K x)) (.ref (He.ga K top)) = some true)))
def cnBH (K : PySem.W.Frag) (C : Addr) : Bool := decide (PySem.W.findIn K (.ref C) "name" = some none) && (PySem.W.readsIn K C (.type "type") && ((match PySem.W.findCls K (.ref C) (.type "type") "__name__" with
    | some (.get (.builtin g) (.builtin a) (.ref C') (.type t)) => g == "getset_descriptor.__get__" && (a == "type.__name__" && (C' == C && t == "type"))
    | _ => false) && (match K.lookup C with
    | some ⟨.type t, _, _, sl⟩ => t == "type" && (match (sl[2]?).join with
      | some (Value.str _ _) => true
      | _ => false)
    | _ => false)))
/-- what is asked of a class that is handled -/
def excBH (K : PySem.W.Frag) (D : Addr) : Bool := decide (PySem.W.findIn K (.ref D) "__getattribute__" = some (some (.builtin "BaseException.__getattribute__"))) && (decide (PySem.W.findIn K (.ref D) "__getattr__" = some none) && (decide (PySem.W.subIn K (.ref D) (.type "BaseException") = some true) &&
  (PySem.W.hasDictIn K D && (decide (PySem.W.findIn K (.ref D) "__class__" = some (some (.builtin "object.__class__"))) && (decide (PySem.W.specialIn K (.builtin "object.__class__") "__get__" = some (some (.builtin "getset_descriptor.__get__"))) && (decide (PySem.W.takesIn K (.builtin "object.__class__") = some true) &&
  decide (PySem.W.mroIn K D (.type "object") = some true)))))))
/-- which of the classes a handled one is -/
def kitBH (K : PySem.W.Frag) (ns : List Str) (k : Str) : Bool := excBH K (He.ga K k) && ns.all fun n => decide (PySem.W.kitOne K (.ref (He.ga K k)) (.ref (He.ga K n)) = some (decide (n = k)))
/-- all of it: er the classes, top the one they stand under, hk those that are handled, ns those that are asked for -/
def exAll (er : List Str) (top : Str) (hk ns : List Str) (K : PySem.W.Frag) : Bool := (er.all (clsBH K top) && er.all fun x => excBH K (He.ga K x) && cnBH K (He.ga K x)) && (hk.all (kitBH K ns) && decide (PySem.W.typeIn K (.ref (He.ma K (He.ga K top) "__init__")) = some (.type "function")))
/-- the facts by names -/
def faAll (P cl fr : List Str) (gi : List (Str × Int)) : List He.Fa := P.map .glo ++ (cl.map .glo ++ (fr.map .free ++ gi.map fun p => .int p.1 p.2))
/-- the head looked at through few addresses, told one by one -/
def obsY (as : List Addr) (fa : List He.Fa) (fn : List He.DefD) (tf : List He.Defn) (ex : PySem.W.Frag → Bool) (g : Addr → Option Obj) : He.AlX :=
  (He.obsT fa fn [] (He.frT g as), ex (He.frT g as) && He.tabsB g tf (He.frT g as))
theorem saysY {as : List Addr} {fa : List He.Fa} {fn : List He.DefD} {tf : List He.Defn} {ex : PySem.W.Frag → Bool} {w : World} {h : Heap} (e : obsY as fa fn tf ex h.get? = He.valX fn [] w) : He.SaysX fa fn [] tf ex w h (He.frT h.get? as) := by
  obtain ⟨ea, eb⟩ := Prod.mk.inj (show (_, _) = (He.valT fn [] w, true) from e)
  obtain ⟨b1, b2⟩ := Bool.and_eq_true_iff.mp eb
  have one : ∀ q ∈ tf, PySem.W.codeHdIn (He.frT h.get? as) (He.cT (He.frT h.get? as) q).1 (He.cT (He.frT h.get? as) q).2 = true ∧ ∃ u, h.get? (He.cT (He.frT h.get? as) q).2 = some u ∧ He.emptyTab u = true := fun q hq => by
    have z := Bool.and_eq_true_iff.mp (List.all_eq_true.mp b2 q hq)
    refine ⟨z.1, ?_⟩
    have z2 := z.2
    split at z2
    · rename_i u hu
      exact ⟨u, hu, z2⟩
    · cases z2
  refine ⟨ea, b1, fun q hq => (one q hq).1, fun q hq => ?_, fun q hq => ?_⟩
  · obtain ⟨u, hu, zu⟩ := (one q hq).2
    exact He.frT_none hu zu
  · obtain ⟨u, hu, zu⟩ := (one q hq).2
    rw [hu, He.emptyTab_eq zu]
def hookY (as : List Addr) (fa : List He.Fa) (fn : List He.DefD) (tf : List He.Defn) (ex : PySem.W.Frag → Bool) : PySem.W.Hook where
  α := He.AlX
  obs := fun st => obsY as fa fn tf ex st.heap.get?
  val := He.valX fn []
  says := fun w h => ∃ K : PySem.W.Frag, K.In h ∧ He.SaysX fa fn [] tf ex w h K
  of := fun _ _ z => ⟨_, He.frT_in, saysY z⟩
  keeps := fun _ _ _ ⟨K, kin, sx⟩ kp => ⟨K, kin.keeps kp, ⟨sx.t, sx.more, sx.hd, sx.out, fun q hq => kp _ _ (sx.empty q hq)⟩⟩
theorem obsY_eq {as : List Addr} {fa : List He.Fa} {fn : List He.DefD} {tf : List He.Defn} {ex : PySem.W.Frag → Bool} {g : Addr → Option Obj} {st : Shared} (hg : ∀ a, g a = st.heap.get? a) : obsY as fa fn tf ex g = (hookY as fa fn tf ex).obs st := by
  rw [show g = st.heap.get? from funext hg]
  rfl
end Fh
end
section
set_option Elab.async false
set_option linter.all false
set_option maxRecDepth 100000
set_option maxHeartbeats 0
namespace Kx
open PySem PySem.Spec PyProof.Rows L2 Fh
def top (i : Nat) : Stmt := PySem.Challenge.pw_fifthhost_k01_nets_made_and_judged.main.body.getD i (.Pass ⟨0, 0, 0, 0⟩)
def looseN0 : List PySem.Str := [("Refused" : Str), ("BadNet" : Str), ("BadVotes" : Str), ("BadLinks" : Str), ("BadNeed" : Str), ("BadHost" : Str), ("BadLot" : Str), ("BadOrder" : Str), ("BadBlock" : Str), ("BadWhich" : Str), ("BadSeam" : Str), ("BadTimes" : Str), ("BadRule" : Str), ("BadLog" : Str), ("BadHouse" : Str), ("BadMoments" : Str), ("BadKey" : Str), ("BadValue" : Str), ("BadMany" : Str), ("BadPairs" : Str), ("BadLetters" : Str), ("BadName" : Str), ("BadNumber" : Str), ("BadPlace" : Str), ("BadEdition" : Str), ("BadRestores" : Str), ("BadRecord" : Str), ("BadEntry" : Str), ("BadStory" : Str), ("BadText" : Str)]
def looseN1 : List PySem.Str := [("WrongWord" : Str), ("WrongLine" : Str), ("Same" : Str), ("Already" : Str), ("NoLink" : Str), ("Unlike" : Str), ("NotWorking" : Str), ("Unruled" : Str), ("NoRule" : Str), ("Down" : Str), ("Blank" : Str), ("NotDown" : Str), ("NotBlank" : Str), ("NotOpen" : Str), ("NotCommanding" : Str), ("NotSettled" : Str), ("NotSealed" : Str), ("NotLet" : Str), ("Harmful" : Str), ("NoLetter" : Str), ("NothingToUndo" : Str), ("NothingToRedo" : Str), ("TooMany" : Str), ("is_number" : Str), ("number_from" : Str), ("number_below" : Str), ("tuple_of" : Str), ("pair_below" : Str), ("wrong_number" : Str), ("wrong_pair" : Str)]
def looseN2 : List PySem.Str := [("MOST_HOSTS" : Str), ("made_net" : Str), ("is_net" : Str), ("check_all_votes" : Str), ("check_links" : Str), ("check_need" : Str), ("_law_pool" : Str), ("_law_take" : Str), ("_law_one" : Str), ("_law_some" : Str), ("_law_is_whole" : Str), ("_law_same" : Str), ("_law_classes" : Str), ("_law_heard" : Str), ("_law_tells" : Str), ("_law_ways_in" : Str), ("_law_part_in" : Str), ("_law_set_in" : Str), ("_law_odds_of" : Str), ("_law_odd" : Str), ("_law_listed" : Str), ("_law_truth_ways" : Str), ("_law_truth" : Str), ("_law_is_pair" : Str), ("_law_net_refusal" : Str), ("_law_judged" : Str), ("_law_size" : Str), ("_law_raw_net" : Str), ("_law_pairs" : Str), ("_law_bent_votes" : Str)]
def looseN3 : List PySem.Str := [("_law_bent_link" : Str), ("_law_bent_pairs" : Str), ("_law_bent_need" : Str), ("_law_bent_net" : Str), ("_law_full_net" : Str)]
def looseN : List PySem.Str := looseN0 ++ looseN1 ++ looseN2 ++ looseN3
def defN0 : List Str := [("is_number" : Str), ("number_from" : Str), ("number_below" : Str), ("tuple_of" : Str), ("pair_below" : Str), ("wrong_number" : Str), ("wrong_pair" : Str), ("made_net" : Str), ("is_net" : Str), ("check_all_votes" : Str), ("check_links" : Str), ("check_need" : Str), ("_law_pool" : Str), ("_law_take" : Str), ("_law_one" : Str), ("_law_some" : Str), ("_law_is_whole" : Str), ("_law_same" : Str), ("_law_classes" : Str), ("_law_heard" : Str), ("_law_tells" : Str), ("_law_ways_in" : Str), ("_law_part_in" : Str), ("_law_set_in" : Str), ("_law_odds_of" : Str), ("_law_odd" : Str), ("_law_listed" : Str), ("_law_truth_ways" : Str), ("_law_truth" : Str), ("_law_is_pair" : Str)]
def defN1 : List Str := [("_law_net_refusal" : Str), ("_law_judged" : Str), ("_law_size" : Str), ("_law_raw_net" : Str), ("_law_pairs" : Str), ("_law_bent_votes" : Str), ("_law_bent_link" : Str), ("_law_bent_pairs" : Str), ("_law_bent_need" : Str), ("_law_bent_net" : Str), ("_law_full_net" : Str), ("law" : Str)]
def defN : List Str := defN0 ++ defN1
def freeN : List Str := [("len" : Str), ("int" : Str), ("tuple" : Str), ("list" : Str), ("type" : Str), ("isinstance" : Str), ("range" : Str), ("enumerate" : Str), ("max" : Str), ("str" : Str), ("bool" : Str)]
def clsN0 : List Str := [("Refused" : Str), ("BadNet" : Str), ("BadVotes" : Str), ("BadLinks" : Str), ("BadNeed" : Str), ("BadHost" : Str), ("BadLot" : Str), ("BadOrder" : Str), ("BadBlock" : Str), ("BadWhich" : Str), ("BadSeam" : Str), ("BadTimes" : Str), ("BadRule" : Str), ("BadLog" : Str), ("BadHouse" : Str), ("BadMoments" : Str), ("BadKey" : Str), ("BadValue" : Str), ("BadMany" : Str), ("BadPairs" : Str), ("BadLetters" : Str), ("BadName" : Str), ("BadNumber" : Str), ("BadPlace" : Str), ("BadEdition" : Str), ("BadRestores" : Str), ("BadRecord" : Str), ("BadEntry" : Str), ("BadStory" : Str), ("BadText" : Str)]
def clsN1 : List Str := [("WrongWord" : Str), ("WrongLine" : Str), ("Same" : Str), ("Already" : Str), ("NoLink" : Str), ("Unlike" : Str), ("NotWorking" : Str), ("Unruled" : Str), ("NoRule" : Str), ("Down" : Str), ("Blank" : Str), ("NotDown" : Str), ("NotBlank" : Str), ("NotOpen" : Str), ("NotCommanding" : Str), ("NotSettled" : Str), ("NotSealed" : Str), ("NotLet" : Str), ("Harmful" : Str), ("NoLetter" : Str), ("NothingToUndo" : Str), ("NothingToRedo" : Str), ("TooMany" : Str)]
def clsN : List Str := clsN0 ++ clsN1
def erN : List Str := [("Refused" : Str), ("BadNet" : Str), ("BadVotes" : Str), ("TooMany" : Str), ("BadLinks" : Str), ("BadNeed" : Str)]
def exN : List Str := [("BadNet" : Str), ("BadVotes" : Str), ("TooMany" : Str), ("BadLinks" : Str), ("BadNeed" : Str)]
def askN0 : List Str := [("BadNet" : Str), ("BadVotes" : Str), ("BadLinks" : Str), ("BadNeed" : Str), ("BadHost" : Str), ("BadLot" : Str), ("BadOrder" : Str), ("BadBlock" : Str), ("BadWhich" : Str), ("BadSeam" : Str), ("BadTimes" : Str), ("BadRule" : Str), ("BadLog" : Str), ("BadHouse" : Str), ("BadMoments" : Str), ("BadKey" : Str), ("BadValue" : Str), ("BadMany" : Str), ("BadPairs" : Str), ("BadLetters" : Str), ("BadName" : Str), ("BadNumber" : Str), ("BadPlace" : Str), ("BadEdition" : Str), ("BadRestores" : Str), ("BadRecord" : Str), ("BadEntry" : Str), ("BadStory" : Str), ("BadText" : Str), ("WrongWord" : Str)]
def askN1 : List Str := [("WrongLine" : Str), ("Same" : Str), ("Already" : Str), ("NoLink" : Str), ("Unlike" : Str), ("NotWorking" : Str), ("Unruled" : Str), ("NoRule" : Str), ("Down" : Str), ("Blank" : Str), ("NotDown" : Str), ("NotBlank" : Str), ("NotOpen" : Str), ("NotCommanding" : Str), ("NotSettled" : Str), ("NotSealed" : Str), ("NotLet" : Str), ("Harmful" : Str), ("NoLetter" : Str), ("NothingToUndo" : Str), ("NothingToRedo" : Str), ("TooMany" : Str)]
def askN : List Str := askN0 ++ askN1
def giN : List (Str × Int) := [(("MOST_HOSTS" : Str), 40)]
def lamN : List Str := [("_law_judged" : Str)]
def iniSt : Stmt := match top 1 with
  | .ClassDef _ _ _ (st :: _) _ _ _ _ _ _ _ => st
  | st => st
def hIni : He.DefD := ⟨("Refused", some "__init__"), "__init__", "Refused.__init__", defArgs iniSt, defBody iniSt, defScope iniSt, [], []⟩
def h55 : He.DefD := ⟨("is_number", none), "is_number", "is_number", defArgs (top 55), defBody (top 55), defScope (top 55), [], []⟩
def h56 : He.DefD := ⟨("number_from", none), "number_from", "number_from", defArgs (top 56), defBody (top 56), defScope (top 56), [], []⟩
def h57 : He.DefD := ⟨("number_below", none), "number_below", "number_below", defArgs (top 57), defBody (top 57), defScope (top 57), [], []⟩
def h58 : He.DefD := ⟨("tuple_of", none), "tuple_of", "tuple_of", defArgs (top 58), defBody (top 58), defScope (top 58), [], []⟩
def h59 : He.DefD := ⟨("pair_below", none), "pair_below", "pair_below", defArgs (top 59), defBody (top 59), defScope (top 59), [], []⟩
def h60 : He.DefD := ⟨("wrong_number", none), "wrong_number", "wrong_number", defArgs (top 60), defBody (top 60), defScope (top 60), [], []⟩
def h61 : He.DefD := ⟨("wrong_pair", none), "wrong_pair", "wrong_pair", defArgs (top 61), defBody (top 61), defScope (top 61), [], []⟩
def h64 : He.DefD := ⟨("made_net", none), "made_net", "made_net", defArgs (top 64), defBody (top 64), defScope (top 64), [], []⟩
def h65 : He.DefD := ⟨("is_net", none), "is_net", "is_net", defArgs (top 65), defBody (top 65), defScope (top 65), [], []⟩
def h66 : He.DefD := ⟨("check_all_votes", none), "check_all_votes", "check_all_votes", defArgs (top 66), defBody (top 66), defScope (top 66), [], []⟩
def h67 : He.DefD := ⟨("check_links", none), "check_links", "check_links", defArgs (top 67), defBody (top 67), defScope (top 67), [], []⟩
def h68 : He.DefD := ⟨("check_need", none), "check_need", "check_need", defArgs (top 68), defBody (top 68), defScope (top 68), [], []⟩
def h70 : He.DefD := ⟨("_law_pool", none), "_law_pool", "_law_pool", defArgs (top 70), defBody (top 70), defScope (top 70), [], []⟩
def h71 : He.DefD := ⟨("_law_take", none), "_law_take", "_law_take", defArgs (top 71), defBody (top 71), defScope (top 71), [], []⟩
def h72 : He.DefD := ⟨("_law_one", none), "_law_one", "_law_one", defArgs (top 72), defBody (top 72), defScope (top 72), [], []⟩
def h73 : He.DefD := ⟨("_law_some", none), "_law_some", "_law_some", defArgs (top 73), defBody (top 73), defScope (top 73), [], []⟩
def h74 : He.DefD := ⟨("_law_is_whole", none), "_law_is_whole", "_law_is_whole", defArgs (top 74), defBody (top 74), defScope (top 74), [], []⟩
def h75 : He.DefD := ⟨("_law_same", none), "_law_same", "_law_same", defArgs (top 75), defBody (top 75), defScope (top 75), [], []⟩
def h76 : He.DefD := ⟨("_law_classes", none), "_law_classes", "_law_classes", defArgs (top 76), defBody (top 76), defScope (top 76), [], []⟩
def h77 : He.DefD := ⟨("_law_heard", none), "_law_heard", "_law_heard", defArgs (top 77), defBody (top 77), defScope (top 77), [], []⟩
def h78 : He.DefD := ⟨("_law_tells", none), "_law_tells", "_law_tells", defArgs (top 78), defBody (top 78), defScope (top 78), [], []⟩
def h79 : He.DefD := ⟨("_law_ways_in", none), "_law_ways_in", "_law_ways_in", defArgs (top 79), defBody (top 79), defScope (top 79), [], []⟩
def h80 : He.DefD := ⟨("_law_part_in", none), "_law_part_in", "_law_part_in", defArgs (top 80), defBody (top 80), defScope (top 80), [], []⟩
def h81 : He.DefD := ⟨("_law_set_in", none), "_law_set_in", "_law_set_in", defArgs (top 81), defBody (top 81), defScope (top 81), [], []⟩
def h82 : He.DefD := ⟨("_law_odds_of", none), "_law_odds_of", "_law_odds_of", defArgs (top 82), defBody (top 82), defScope (top 82), [], []⟩
def h83 : He.DefD := ⟨("_law_odd", none), "_law_odd", "_law_odd", defArgs (top 83), defBody (top 83), defScope (top 83), [], []⟩
def h84 : He.DefD := ⟨("_law_listed", none), "_law_listed", "_law_listed", defArgs (top 84), defBody (top 84), defScope (top 84), [], []⟩
def h85 : He.DefD := ⟨("_law_truth_ways", none), "_law_truth_ways", "_law_truth_ways", defArgs (top 85), defBody (top 85), defScope (top 85), [], []⟩
def h86 : He.DefD := ⟨("_law_truth", none), "_law_truth", "_law_truth", defArgs (top 86), defBody (top 86), defScope (top 86), [], []⟩
def h87 : He.DefD := ⟨("_law_is_pair", none), "_law_is_pair", "_law_is_pair", defArgs (top 87), defBody (top 87), defScope (top 87), [], []⟩
def h88 : He.DefD := ⟨("_law_net_refusal", none), "_law_net_refusal", "_law_net_refusal", defArgs (top 88), defBody (top 88), defScope (top 88), [], []⟩
def h89 : He.DefD := ⟨("_law_judged", none), "_law_judged", "_law_judged", defArgs (top 89), defBody (top 89), defScope (top 89), [], []⟩
def h90 : He.DefD := ⟨("_law_size", none), "_law_size", "_law_size", defArgs (top 90), defBody (top 90), defScope (top 90), [], []⟩
def h91 : He.DefD := ⟨("_law_raw_net", none), "_law_raw_net", "_law_raw_net", defArgs (top 91), defBody (top 91), defScope (top 91), [], []⟩
def h92 : He.DefD := ⟨("_law_pairs", none), "_law_pairs", "_law_pairs", defArgs (top 92), defBody (top 92), defScope (top 92), [], []⟩
def h93 : He.DefD := ⟨("_law_bent_votes", none), "_law_bent_votes", "_law_bent_votes", defArgs (top 93), defBody (top 93), defScope (top 93), [], []⟩
def h94 : He.DefD := ⟨("_law_bent_link", none), "_law_bent_link", "_law_bent_link", defArgs (top 94), defBody (top 94), defScope (top 94), [], []⟩
def h95 : He.DefD := ⟨("_law_bent_pairs", none), "_law_bent_pairs", "_law_bent_pairs", defArgs (top 95), defBody (top 95), defScope (top 95), [], []⟩
def h96 : He.DefD := ⟨("_law_bent_need", none), "_law_bent_need", "_law_bent_need", defArgs (top 96), defBody (top 96), defScope (top 96), [], []⟩
def h97 : He.DefD := ⟨("_law_bent_net", none), "_law_bent_net", "_law_bent_net", defArgs (top 97), defBody (top 97), defScope (top 97), [], []⟩
def h98 : He.DefD := ⟨("_law_full_net", none), "_law_full_net", "_law_full_net", defArgs (top 98), defBody (top 98), defScope (top 98), [], []⟩
def h99 : He.DefD := ⟨("law", none), "law", "law", defArgs (top 99), defBody (top 99), defScope (top 99), [], []⟩
abbrev ix_is_number : Nat := 55
abbrev ix_number_from : Nat := 56
abbrev ix_number_below : Nat := 57
abbrev ix_tuple_of : Nat := 58
abbrev ix_pair_below : Nat := 59
abbrev ix_wrong_number : Nat := 60
abbrev ix_wrong_pair : Nat := 61
abbrev ix_made_net : Nat := 64
abbrev ix_is_net : Nat := 65
abbrev ix_check_all_votes : Nat := 66
abbrev ix_check_links : Nat := 67
abbrev ix_check_need : Nat := 68
abbrev ix_law_pool : Nat := 70
abbrev ix_law_take : Nat := 71
abbrev ix_law_one : Nat := 72
abbrev ix_law_some : Nat := 73
abbrev ix_law_is_whole : Nat := 74
abbrev ix_law_same : Nat := 75
abbrev ix_law_classes : Nat := 76
abbrev ix_law_heard : Nat := 77
abbrev ix_law_tells : Nat := 78
abbrev ix_law_ways_in : Nat := 79
abbrev ix_law_part_in : Nat := 80
abbrev ix_law_set_in : Nat := 81
abbrev ix_law_odds_of : Nat := 82
abbrev ix_law_odd : Nat := 83
abbrev ix_law_listed : Nat := 84
abbrev ix_law_truth_ways : Nat := 85
abbrev ix_law_truth : Nat := 86
abbrev ix_law_is_pair : Nat := 87
abbrev ix_law_net_refusal : Nat := 88
abbrev ix_law_judged : Nat := 89
abbrev ix_law_size : Nat := 90
abbrev ix_law_raw_net : Nat := 91
abbrev ix_law_pairs : Nat := 92
abbrev ix_law_bent_votes : Nat := 93
abbrev ix_law_bent_link : Nat := 94
abbrev ix_law_bent_pairs : Nat := 95
abbrev ix_law_bent_need : Nat := 96
abbrev ix_law_bent_net : Nat := 97
abbrev ix_law_full_net : Nat := 98
abbrev ix_law : Nat := 99
abbrev hLaw : He.DefD := h99
def fnH : List He.DefD := [hIni, h55, h56, h57, h58, h59, h60, h61, h64, h65, h66, h67, h68, h70, h71, h72, h73, h74, h75, h76, h77, h78, h79, h80, h81, h82, h83, h84, h85, h86, h87, h88, h89, h90, h91, h92, h93, h94, h95, h96, h97, h98, h99]
def tfH : List He.Defn := [("_law_judged", none)]
def lawAt : Nat := 99
def asH0 : List Addr := [3, 2, 31, 30, 28, 27, 44, 43, 56, 55, 656, 655, 68, 67, 80, 79, 92, 104, 116, 128, 140, 152, 164, 176, 188, 200, 212, 224, 236, 248]
def asH1 : List Addr := [260, 272, 284, 296, 308, 320, 332, 344, 356, 368, 380, 392, 404, 416, 428, 440, 452, 464, 476, 488, 500, 512, 524, 536, 548, 560, 572, 584, 596, 608]
def asH2 : List Addr := [620, 632, 644, 665, 664, 672, 671, 679, 678, 686, 685, 693, 692, 700, 699, 707, 706, 714, 713, 721, 720, 728, 727, 735, 734, 742, 741, 749, 748, 756]
def asH3 : List Addr := [755, 763, 762, 768, 767, 775, 774, 782, 781, 789, 788, 794, 793, 801, 800, 806, 805, 813, 812, 820, 819, 827, 826, 834, 833, 839, 838, 846, 845, 853]
def asH4 : List Addr := [852, 860, 859, 865, 864, 872, 871, 879, 878, 884, 883, 889, 888, 896, 895, 903, 902, 910, 909, 917, 916, 924, 923, 929, 928, 936, 935]
def asH : List Addr := asH0 ++ asH1 ++ asH2 ++ asH3 ++ asH4
abbrev R : PySem.W.OpenRow := PySem.W.OpenLaw.row PySem.Challenge.rw_fifthhost_k01_nets_made_and_judged
def exB (K : PySem.W.Frag) : Bool := exAll erN "Refused" exN askN K
def faH : List He.Fa := faAll defN clsN freeN giN
abbrev hk : PySem.W.Hook := hookY asH faH fnH tfH exB
def ob (s : PySem.W.SharedT) : He.AlX := obsY asH faH fnH tfH exB (HandSHeadRun.getT s)
theorem ob_eq (s : PySem.W.SharedT) : ob s = hk.obs s.abs := obsY_eq (HandSHeadRun.getT_eq s)
theorem run (w : World) : HandSHeadRun.RunEq R (PySem.W.view R.prog [lawAt]) hk ob 20000 looseN w := by
  intro os
  kernel_rfl
end Kx
end
section
set_option Elab.async false
set_option linter.all false
set_option maxRecDepth 100000
set_option maxHeartbeats 2000000
/-! Data as trees, the state of a body, what an expression evaluates to: over the hand layer. -/
namespace Fh
open PySem PySem.Spec PyProof.Rows L2

/-- data as a tree; jar: the one list that calls change; ob: a thing of which nothing is asked; scr: a list of ints that is read alone; dct: a dict that is read alone -/
inductive D where
  | non
  | bl (b : Bool)
  | int (i : Int)
  | str (s : Str)
  | tup (l : List D)
  | lst (l : List D)
  | jar
  | ob (v : V)
  | scr (ns : List Int)
  | dct (ks : List L2.Key) (ds : List D)

/-- the heap without some addresses -/
def off (S : List Addr) (H : Hp) : Hp := fun a => if a ∈ S then none else H a
theorem off_eq {S : List Addr} {H : Hp} {a : Addr} (h : a ∉ S) : off S H a = H a := by
  unfold off; rw [if_neg h]
theorem off_some {S : List Addr} {H : Hp} {a : Addr} {o : HO} (h : off S H a = some o) : a ∉ S ∧ H a = some o := by
  unfold off at h
  by_cases e : a ∈ S
  · rw [if_pos e] at h; cases h
  · rw [if_neg e] at h; exact ⟨e, h⟩

mutual
inductive Rep (K : PySem.W.Frag) (j : Addr) (G : Hp) : V → D → Prop
  | non : Rep K j G .non .non
  | bl (b : Bool) : Rep K j G (.bl b) (.bl b)
  | int (i : Int) : Rep K j G (.int i) (.int i)
  | str (s : Str) : Rep K j G (.str s) (.str s)
  | tup {p : Addr} {xs : List V} {ds : List D} (h : SqT K G p xs) (r : Reps K j G xs ds) : Rep K j G (.ref p) (.tup ds)
  | lst {p : Addr} {xs : List V} {ds : List D} (h : G p = some (.lst xs)) (r : Reps K j G xs ds) : Rep K j G (.ref p) (.lst ds)
  | jar : Rep K j G (.ref j) .jar
  | ob (v : V) : Rep K j G v (.ob v)
  | scr {p : Addr} {ns : List Int} (h : SqL K G p (ns.map V.int)) : Rep K j G (.ref p) (.scr ns)
  | dct {p : Addr} {ks : List L2.Key} {vs : List V} {ds : List D} (h : G p = some (.dK (ks.zip vs))) (hl : ks.length = ds.length) (r : Reps K j G vs ds) : Rep K j G (.ref p) (.dct ks ds)
inductive Reps (K : PySem.W.Frag) (j : Addr) (G : Hp) : List V → List D → Prop
  | nil : Reps K j G [] []
  | cons {v : V} {d : D} {vs : List V} {ds : List D} (h : Rep K j G v d) (t : Reps K j G vs ds) : Reps K j G (v :: vs) (d :: ds)
end

section
variable {K : PySem.W.Frag} {j : Addr} {G G' : Hp} {v : V} {d : D} {vs ws : List V} {ds es : List D}
/-- what data stands on -/
def isDat : HO → Bool
  | .lst _ => true
  | .tup _ => true
  | .frz _ _ => true
  | .dK _ => true
  | _ => false
theorem isDat_tbl {o : HO} (h : isDat o = true) : ∀ ps, o ≠ .tbl ps := fun ps z => by rw [z] at h; cases h
theorem rd_monoD {G G' : Hp} (e : ∀ a o, G a = some o → isDat o = true → G' a = some o) {a : Addr} {u : HO} (hu : isDat u = true) (h : Rd G a u) : Rd G' a u := by
  rcases h with h | ⟨o, h⟩
  · exact .inl (e a _ h hu)
  · exact .inr ⟨o, e a _ h rfl⟩
theorem sqT_monoD (e : ∀ a o, G a = some o → isDat o = true → G' a = some o) {a : Addr} {xs : List V} (h : SqT K G a xs) : SqT K G' a xs := by
  rcases h with h | h
  · exact .inl (rd_monoD e rfl h)
  · exact .inr h
theorem sqL_monoD (e : ∀ a o, G a = some o → isDat o = true → G' a = some o) {a : Addr} {xs : List V} (h : SqL K G a xs) : SqL K G' a xs := by
  rcases h with h | h
  · exact .inl (rd_monoD e rfl h)
  · exact .inr h
theorem sqT_mono (e : ∀ a o, G a = some o → (∀ ps, o ≠ .tbl ps) → G' a = some o) {a : Addr} {xs : List V} (h : SqT K G a xs) : SqT K G' a xs := sqT_monoD (fun a o q d => e a o q (isDat_tbl d)) h
theorem sqL_mono (e : ∀ a o, G a = some o → (∀ ps, o ≠ .tbl ps) → G' a = some o) {a : Addr} {xs : List V} (h : SqL K G a xs) : SqL K G' a xs := sqL_monoD (fun a o q d => e a o q (isDat_tbl d)) h
mutual
theorem Rep.monoD (e : ∀ a o, G a = some o → isDat o = true → G' a = some o) : ∀ {v : V} {d : D}, Rep K j G v d → Rep K j G' v d
  | _, _, .non => .non
  | _, _, .bl b => .bl b
  | _, _, .int i => .int i
  | _, _, .str s => .str s
  | _, _, .tup h r => .tup (sqT_monoD e h) (Reps.monoD e r)
  | _, _, .lst h r => .lst (e _ _ h rfl) (Reps.monoD e r)
  | _, _, .jar => .jar
  | _, _, .ob v => .ob v
  | _, _, .scr h => .scr (sqL_monoD e h)
  | _, _, .dct h hl r => .dct (e _ _ h rfl) hl (Reps.monoD e r)
theorem Reps.monoD (e : ∀ a o, G a = some o → isDat o = true → G' a = some o) : ∀ {vs : List V} {ds : List D}, Reps K j G vs ds → Reps K j G' vs ds
  | _, _, .nil => .nil
  | _, _, .cons h t => .cons (Rep.monoD e h) (Reps.monoD e t)
end
theorem Rep.mono (e : ∀ a o, G a = some o → (∀ ps, o ≠ .tbl ps) → G' a = some o) {v : V} {d : D} (h : Rep K j G v d) : Rep K j G' v d := h.monoD fun a o q d => e a o q (isDat_tbl d)
theorem Reps.mono (e : ∀ a o, G a = some o → (∀ ps, o ≠ .tbl ps) → G' a = some o) {vs : List V} {ds : List D} (h : Reps K j G vs ds) : Reps K j G' vs ds := h.monoD fun a o q d => e a o q (isDat_tbl d)
theorem Reps.length : ∀ {vs : List V} {ds : List D}, Reps K j G vs ds → vs.length = ds.length
  | _, _, .nil => rfl
  | _, _, .cons _ t => by rw [List.length_cons, List.length_cons, Reps.length t]
theorem Reps.get : ∀ {vs : List V} {ds : List D} {i : Nat} {v : V}, Reps K j G vs ds → vs[i]? = some v → ∃ d, ds[i]? = some d ∧ Rep K j G v d
  | _, _, _, _, .nil, e => by simp at e
  | _, _, 0, _, .cons h _, e => by simp at e; subst e; exact ⟨_, rfl, h⟩
  | _, _, i + 1, v, .cons _ t, e => by
    obtain ⟨d, h1, h2⟩ := Reps.get (i := i) (v := v) t (by simpa using e)
    exact ⟨d, by simpa using h1, h2⟩
theorem Reps.at : ∀ {vs : List V} {ds : List D} {i : Nat} {d : D}, Reps K j G vs ds → ds[i]? = some d → ∃ v, vs[i]? = some v ∧ Rep K j G v d
  | _, _, _, _, .nil, e => by simp at e
  | _, _, 0, _, .cons h _, e => by simp at e; subst e; exact ⟨_, rfl, h⟩
  | _, _, i + 1, d, .cons _ t, e => by
    obtain ⟨v, h1, h2⟩ := Reps.at (i := i) (d := d) t (by simpa using e)
    exact ⟨v, by simpa using h1, h2⟩
theorem Reps.append : ∀ {vs ws : List V} {ds es : List D}, Reps K j G vs ds → Reps K j G ws es → Reps K j G (vs ++ ws) (ds ++ es)
  | _, _, _, _, .nil, s => s
  | _, _, _, _, .cons h t, s => .cons h (Reps.append t s)
theorem Reps.take : ∀ {vs : List V} {ds : List D} (n : Nat), Reps K j G vs ds → Reps K j G (vs.take n) (ds.take n)
  | _, _, 0, _ => .nil
  | _, _, _ + 1, .nil => .nil
  | _, _, n + 1, .cons h t => .cons h (Reps.take n t)
theorem Reps.drop : ∀ {vs : List V} {ds : List D} (n : Nat), Reps K j G vs ds → Reps K j G (vs.drop n) (ds.drop n)
  | _, _, 0, r => r
  | _, _, _ + 1, .nil => .nil
  | _, _, n + 1, .cons _ t => Reps.drop n t
theorem Reps.replicate {v : V} {d : D} (h : Rep K j G v d) : ∀ n : Nat, Reps K j G (List.replicate n v) (List.replicate n d)
  | 0 => .nil
  | n + 1 => .cons h (Reps.replicate h n)
theorem Reps.reverse : ∀ {vs : List V} {ds : List D}, Reps K j G vs ds → Reps K j G vs.reverse ds.reverse
  | _, _, .nil => .nil
  | _, _, .cons h t => by
    rw [List.reverse_cons, List.reverse_cons]
    exact Reps.append (Reps.reverse t) (.cons h .nil)
/-- ints -/
theorem Reps.ints : ∀ {vs : List V} {ns : List Int}, Reps K j G vs (ns.map D.int) → vs = ns.map V.int
  | [], [], _ => rfl
  | _ :: _, [], h => nomatch h
  | [], _ :: _, h => nomatch h
  | v :: vs, n :: ns, h => by
    cases h with
    | cons h t =>
      cases h
      rw [Reps.ints t]
      rfl
theorem Reps.strs : ∀ {vs : List V} {ns : List Str}, Reps K j G vs (ns.map D.str) → vs = ns.map V.str
  | [], [], _ => rfl
  | _ :: _, [], h => nomatch h
  | [], _ :: _, h => nomatch h
  | v :: vs, n :: ns, h => by
    cases h with
    | cons h t =>
      cases h
      rw [Reps.strs t]
      rfl
end

/-! ### the state -/
/-- all that was tracked is as it was, but j and the tables -/
structure Stp (j : Addr) (H H' : Hp) : Prop where
  keep : ∀ a o, a ≠ j → H a = some o → (∀ ps, o ≠ .tbl ps) → H' a = some o
  live : ∀ a, H' a = none → H a = none
theorem Stp.refl (j : Addr) (H : Hp) : Stp j H H := ⟨fun _ _ _ h _ => h, fun _ h => h⟩
theorem Stp.trans {j : Addr} {H H1 H2 : Hp} (a : Stp j H H1) (b : Stp j H1 H2) : Stp j H H2 := ⟨fun x o n h t => b.keep x o n (a.keep x o n h t) t, fun x h => a.live x (b.live x h)⟩
theorem Stp.of {j : Addr} {H H' : Hp} (h : ∀ a o, H a = some o → H' a = some o) : Stp j H H' := ⟨fun a o _ e _ => h a o e, fun a e => by
  cases q : H a with
  | none => rfl
  | some o => rw [h a o q] at e; cases e⟩
theorem Stp.new {j : Addr} {H : Hp} {p : Addr} {o : HO} (h : H p = none) : Stp j H (upd H p o) := .of fun a u e => by
  rw [upd_ne (ne_of_none e h)]; exact e
/-- an address that was free ahead may be written -/
theorem Stp.own {j : Addr} {H H' : Hp} {p : Addr} {o : HO} (e : Stp j H H') (h : H p = none) : Stp j H (upd H' p o) := ⟨fun a u n q t => by
  rw [upd_ne (ne_of_none q h)]; exact e.keep a u n q t, fun a q => by
  by_cases z : a = p
  · rw [z]; exact h
  · rw [upd_ne z] at q; exact e.live a q⟩
theorem Stp.off {j : Addr} {H H' : Hp} {S : List Addr} (hj : j ∈ S) (e : Stp j H H') : ∀ a o, off S H a = some o → (∀ ps, o ≠ .tbl ps) → Fh.off S H' a = some o := fun a o h t => by
  obtain ⟨n, h⟩ := off_some h
  rw [off_eq n]
  exact e.keep a o (fun z => n (by rw [z]; exact hj)) h t
theorem Rep.stp {K : PySem.W.Frag} {j : Addr} {H H' : Hp} {S : List Addr} (hj : j ∈ S) (e : Stp j H H') {v : V} {d : D} (r : Rep K j (off S H) v d) : Rep K j (off S H') v d := r.mono (e.off hj)
theorem Reps.stp {K : PySem.W.Frag} {j : Addr} {H H' : Hp} {S : List Addr} (hj : j ∈ S) (e : Stp j H H') {v : List V} {d : List D} (r : Reps K j (off S H) v d) : Reps K j (off S H') v d := r.mono (e.off hj)
/-- fewer addresses off -/
theorem off_sub {S S' : List Addr} (h : ∀ a ∈ S', a ∈ S) {H : Hp} : ∀ a o, off S H a = some o → (∀ ps, o ≠ .tbl ps) → off S' H a = some o := fun a o e _ => by
  obtain ⟨n, e⟩ := off_some e
  rw [off_eq fun z => n (h a z)]
  exact e
theorem Rep.sub {K : PySem.W.Frag} {j : Addr} {H : Hp} {S S' : List Addr} (h : ∀ a ∈ S', a ∈ S) {v : V} {d : D} (r : Rep K j (off S H) v d) : Rep K j (off S' H) v d := r.mono (off_sub h)
theorem Reps.sub {K : PySem.W.Frag} {j : Addr} {H : Hp} {S S' : List Addr} (h : ∀ a ∈ S', a ∈ S) {v : List V} {d : List D} (r : Reps K j (off S H) v d) : Reps K j (off S' H) v d := r.mono (off_sub h)
/-- a new address is reached by nothing -/
theorem off_new {S : List Addr} {H : Hp} {p : Addr} {u : HO} (hp : H p = none) : ∀ a o, off S H a = some o → (∀ ps, o ≠ .tbl ps) → off (p :: S) (upd H p u) a = some o := fun a o e _ => by
  obtain ⟨n, e⟩ := off_some e
  have na : a ≠ p := ne_of_none e hp
  rw [off_eq (by rintro (_ | ⟨_, z⟩); · exact na rfl
                 · exact n z), upd_ne na]
  exact e

/-- a slot: frozen data, a list of the body's own -/
inductive Sl where
  | fr (d : D)
  | ow (ds : List D)
abbrev Rho := List (Option Sl)

/-- what is fixed in a def: the tables; the entry's heap, the addresses that are off, the jar's -/
structure Fx where
  K : PySem.W.Frag
  T : List (Addr × Str)
  H0 : Hp
  S0 : List Addr
  j : Addr

/-- the heap at a point: L the body's own lists, c what the jar's address holds -/
structure Ok (F : Fx) (L : List Addr) (c : HO) (H : Hp) : Prop where
  jS : F.j ∈ F.S0
  s0 : ∀ a ∈ F.S0, F.H0 a ≠ none
  jc : H F.j = some c
  tr : ∀ a ∈ L ++ F.S0, ∃ o, H a = some o ∧ ∀ ps, o ≠ .tbl ps
  tb : LamX.Tabs F.T H
  st : Stp F.j F.H0 H
  own : ∀ a ∈ L, F.H0 a = none
  ndL : L.Nodup
theorem Ok.j0 {F : Fx} {L : List Addr} {c : HO} {H : Hp} (h : Ok F L c H) : F.H0 F.j ≠ none := h.s0 _ h.jS
theorem Ok.jL {F : Fx} {L : List Addr} {c : HO} {H : Hp} (h : Ok F L c H) : F.j ∈ L ++ F.S0 := List.mem_append_right _ h.jS
theorem Ok.nj {F : Fx} {L : List Addr} {c : HO} {H : Hp} (h : Ok F L c H) {c0 : HO} (h0 : F.H0 F.j = some c0) : ∀ a ∈ L, a ≠ F.j := fun a ha z => by
  have := h.own a ha
  rw [z, h0] at this
  cases this
/-- a step of an expression -/
theorem Ok.step {F : Fx} {L : List Addr} {c c' : HO} {H H' : Hp} (h : Ok F L c H) (e : Stp F.j H H') (hc : H' F.j = some c') (ht : ∀ ps, c' ≠ .tbl ps) (tb : LamX.Tabs F.T H') : Ok F L c' H' where
  jS := h.jS
  s0 := h.s0
  jc := hc
  tr := fun a ha => by
    by_cases z : a = F.j
    · exact ⟨c', by rw [z]; exact hc, ht⟩
    · obtain ⟨o, e1, e2⟩ := h.tr a ha
      exact ⟨o, e.keep a o z e1 e2, e2⟩
  tb := tb
  st := h.st.trans e
  own := h.own
  ndL := h.ndL
/-- a new object that is not the body's own list -/
theorem Ok.new {F : Fx} {L : List Addr} {c : HO} {H : Hp} {p : Addr} {o : HO} (h : Ok F L c H) (hp : H p = none) : Ok F L c (upd H p o) := by
  have ht : ∀ ps, c ≠ .tbl ps := by
    obtain ⟨o, e1, e2⟩ := h.tr F.j h.jL
    rw [h.jc] at e1; cases e1
    exact e2
  refine h.step (Stp.new hp) ?_ ht (h.tb.ext fun b u e => by rw [upd_ne (ne_of_none e hp)]; exact e)
  rw [upd_ne (ne_of_none h.jc hp)]
  exact h.jc
theorem Ok.ct {F : Fx} {L : List Addr} {c : HO} {H : Hp} (h : Ok F L c H) : ∀ ps, c ≠ .tbl ps := by
  obtain ⟨o, e1, e2⟩ := h.tr F.j h.jL
  rw [h.jc] at e1; cases e1
  exact e2

/-- the slots -/
structure Env (F : Fx) (L : List Addr) (ρ : Rho) (σ : L2.St) (H : Hp) : Prop where
  len : σ.length = ρ.length
  fr : ∀ (i : Nat) (d : D), ρ[i]? = some (some (.fr d)) → ∃ v, σ[i]? = some (some v) ∧ Rep F.K F.j (off (L ++ F.S0) H) v d
  ow : ∀ (i : Nat) (ds : List D), ρ[i]? = some (some (.ow ds)) → ∃ (p : Addr) (xs : List V), σ[i]? = some (some (V.ref p)) ∧ p ∈ L ∧ p ≠ F.j ∧ H p = some (.lst xs) ∧ Reps F.K F.j (off (L ++ F.S0) H) xs ds
  one : ∀ (i k : Nat) (ds es : List D) (p : Addr), ρ[i]? = some (some (.ow ds)) → ρ[k]? = some (some (.ow es)) → σ[i]? = some (some (V.ref p)) → σ[k]? = some (some (V.ref p)) → i = k
theorem Env.step {F : Fx} {L : List Addr} {ρ : Rho} {σ : L2.St} {H H' : Hp} (hj : F.j ∈ L ++ F.S0) (h : Env F L ρ σ H) (e : Stp F.j H H') : Env F L ρ σ H' where
  len := h.len
  fr := fun i d z => by
    obtain ⟨v, h1, h2⟩ := h.fr i d z
    exact ⟨v, h1, h2.stp hj e⟩
  ow := fun i ds z => by
    obtain ⟨p, xs, h1, h2, h3, h4, h5⟩ := h.ow i ds z
    exact ⟨p, xs, h1, h2, h3, e.keep p _ h3 h4 (fun ps => by intro z; cases z), h5.stp hj e⟩
  one := h.one

/-! ### expressions -/
/-- the wish of an expression, as a reading -/
def wE (X : Cx) (e : Expr) : TE := fun σ H Q => ∀ (pins : List (Addr × Obj)) (s : Shared), Inv X pins σ H s → wpAny (model X.prog X.w) X.A (eval e X.env) (EP X pins σ Q) X.xe s
theorem pe_w {X : Cx} {e : Expr} : PE X e (wE X e) := ⟨fun pins s σ H Q I h => h pins s I⟩
theorem wE_of {X : Cx} {e : Expr} {t : TE} (h : PE X e t) {σ : L2.St} {H : Hp} {Q : VK} (q : t σ H Q) : wE X e σ H Q := fun pins s I => h.run pins s σ H Q I q
/-- what is left behind an expression of the value d -/
def Aft (F : Fx) (L : List Addr) (H : Hp) (c' : HO) (d : D) (Q : VK) : Prop := ∀ v H', Stp F.j H H' → Ok F L c' H' → Rep F.K F.j (off (L ++ F.S0) H') v d → Q v H'
/-- from slots ρ and the jar's c the expression gives d, and the jar's c' -/
def Ev (X : Cx) (F : Fx) (e : Expr) (ρ : Rho) (c : HO) (d : D) (c' : HO) : Prop := X.K = F.K → ∀ (L : List Addr) (σ : L2.St) (H : Hp), Ok F L c H → Env F L ρ σ H → ∀ Q : VK, Aft F L H c' d Q → wE X e σ H Q
/-- a list that may be the body's own -/
inductive Lk (F : Fx) (L : List Addr) (H : Hp) : V → D → Prop
  | rep {v : V} {d : D} (r : Rep F.K F.j (off (L ++ F.S0) H) v d) : Lk F L H v d
  | own {p : Addr} {xs : List V} {ds : List D} (h : H p = some (.lst xs)) (n : p ≠ F.j) (r : Reps F.K F.j (off (L ++ F.S0) H) xs ds) : Lk F L H (.ref p) (.lst ds)
theorem Lk.stp {F : Fx} {L : List Addr} {H H' : Hp} {v : V} {d : D} (hj : F.j ∈ L ++ F.S0) (e : Stp F.j H H') (h : Lk F L H v d) : Lk F L H' v d := by
  cases h with
  | rep r => exact .rep (r.stp hj e)
  | own h n r => exact .own (e.keep _ _ n h (fun ps => by intro z; cases z)) n (r.stp hj e)
/-- the same for an expression that is read at once -/
def EvL (X : Cx) (F : Fx) (e : Expr) (ρ : Rho) (c : HO) (d : D) (c' : HO) : Prop := X.K = F.K → ∀ (L : List Addr) (σ : L2.St) (H : Hp), Ok F L c H → Env F L ρ σ H → ∀ Q : VK, (∀ v H', Stp F.j H H' → Ok F L c' H' → Lk F L H' v d → Q v H') → wE X e σ H Q
theorem Ev.l {X : Cx} {F : Fx} {e : Expr} {ρ : Rho} {c c' : HO} {d : D} (h : Ev X F e ρ c d c') : EvL X F e ρ c d c' := fun hK L σ H o E Q q => h hK L σ H o E Q fun v H' s o' r => q v H' s o' (.rep r)
/-- argument lists -/
def wA (X : Cx) (es : List Expr) : TA := fun σ H Q => ∀ (pos : Pos) (pins : List (Addr × Obj)) (s : Shared), Inv X pins σ H s → wpAny (model X.prog X.w) X.A (spliced (backTo pos (starEach es X.env))) (AP X pins σ Q) X.xe s
theorem pa_w {X : Cx} {es : List Expr} : PA X es (wA X es) := ⟨fun pos pins s σ H Q I h => h pos pins s I⟩
theorem wA_of {X : Cx} {es : List Expr} {t : TA} (h : PA X es t) {σ : L2.St} {H : Hp} {Q : List V → Hp → Prop} (q : t σ H Q) : wA X es σ H Q := fun pos pins s I => h.run pos pins s σ H Q I q
def EvA (X : Cx) (F : Fx) (es : List Expr) (ρ : Rho) (c : HO) (ds : List D) (c' : HO) : Prop := X.K = F.K → ∀ (L : List Addr) (σ : L2.St) (H : Hp), Ok F L c H → Env F L ρ σ H → ∀ Q : List V → Hp → Prop,
  (∀ vs H', Stp F.j H H' → Ok F L c' H' → Reps F.K F.j (off (L ++ F.S0) H') vs ds → Q vs H') → wA X es σ H Q
/-- tests -/
def wT (X : Cx) (e : Expr) : TT := fun σ H Q => ∀ (pins : List (Addr × Obj)) (s : Shared), Inv X pins σ H s → wpAny (model X.prog X.w) X.A (isTrue e X.env (eval e X.env)) (TP X pins σ Q) X.xe s
theorem pt_w {X : Cx} {e : Expr} : PT X e (wT X e) := ⟨fun pins s σ H Q I h => h pins s I⟩
theorem wT_of {X : Cx} {e : Expr} {t : TT} (h : PT X e t) {σ : L2.St} {H : Hp} {Q : Bool → Hp → Prop} (q : t σ H Q) : wT X e σ H Q := fun pins s I => h.run pins s σ H Q I q
def EvT (X : Cx) (F : Fx) (e : Expr) (ρ : Rho) (c : HO) (b : Bool) (c' : HO) : Prop := X.K = F.K → ∀ (L : List Addr) (σ : L2.St) (H : Hp), Ok F L c H → Env F L ρ σ H → ∀ Q : Bool → Hp → Prop, (∀ H', Stp F.j H H' → Ok F L c' H' → Q b H') → wT X e σ H Q

section
variable {X : Cx} {F : Fx} {ρ : Rho} {c c1 c2 c3 : HO} {d d1 d2 : D} {e a b : Expr} {pos : Pos}
def varOk (N : List Str) (sc : Scope) (i : Nat) (x : Str) : Bool := (match N[i]? with
    | some y => decide (y = x)
    | none => false) && ((match sc.names.lookup x with
    | some .local => true
    | some .cell => true
    | some .free => true
    | _ => false) && (!(x == ("__debug__" : Str)) && !(x == ("__classdict__" : Str))))
theorem varOk_ok {N : List Str} {sc : Scope} {i : Nat} {x : Str} (h : varOk N sc i x = true) : N[i]? = some x ∧ Vis sc x ∧ (x == ("__debug__" : Str)) = false ∧ (x == ("__classdict__" : Str)) = false := by
  unfold varOk at h
  obtain ⟨h1, h⟩ := Bool.and_eq_true_iff.mp h
  obtain ⟨h2, h⟩ := Bool.and_eq_true_iff.mp h
  obtain ⟨h3, h4⟩ := Bool.and_eq_true_iff.mp h
  refine ⟨?_, ?_, by simpa using h3, by simpa using h4⟩
  · cases e : N[i]? with
    | none => rw [e] at h1; cases h1
    | some y =>
      rw [e] at h1
      rw [of_decide_eq_true h1]
  · cases e : sc.names.lookup x with
    | none => rw [e] at h2; cases h2
    | some k =>
      rw [e] at h2
      cases k with
      | «local» => exact .inl e
      | cell => exact .inr (.inl e)
      | free => exact .inr (.inr e)
      | _ => cases h2
theorem ev_var (i : Nat) {x : Str} (hd : ρ[i]? = some (some (.fr d))) (h : varOk X.N X.env.scope i x = true := by kernel_rfl) : Ev X F (.Name x pos) ρ c d c := fun hK L σ H o E Q q => by
  obtain ⟨hN, hv, hdb, hcd⟩ := varOk_ok h
  obtain ⟨v, h1, h2⟩ := E.fr i d hd
  exact wE_of (pe_var hN hv hdb hcd) ⟨v, h1, q v H (Stp.refl _ _) o h2⟩
/-- the body's own list, read at once -/
theorem ev_own (i : Nat) {x : Str} {ds : List D} (hd : ρ[i]? = some (some (.ow ds))) (h : varOk X.N X.env.scope i x = true := by kernel_rfl) : EvL X F (.Name x pos) ρ c (.lst ds) c := fun hK L σ H o E Q q => by
  obtain ⟨hN, hv, hdb, hcd⟩ := varOk_ok h
  obtain ⟨p, xs, h1, h2, h3, h4, h5⟩ := E.ow i ds hd
  exact wE_of (pe_var hN hv hdb hcd) ⟨_, h1, q _ H (Stp.refl _ _) o (.own h4 h3 h5)⟩
theorem ev_int {i : Int} {k} : Ev X F (.Constant (.int i) k pos) ρ c (.int i) c := fun hK L σ H o E Q q => wE_of pe_int (q _ H (Stp.refl _ _) o (.int i))
theorem ev_bl {i : Bool} {k} : Ev X F (.Constant (.bool i) k pos) ρ c (.bl i) c := fun hK L σ H o E Q q => wE_of pe_bl (q _ H (Stp.refl _ _) o (.bl i))
theorem ev_non {k} : Ev X F (.Constant .none k pos) ρ c .non c := fun hK L σ H o E Q q => wE_of pe_non (q _ H (Stp.refl _ _) o .non)
theorem ev_str {i : Str} {k} : Ev X F (.Constant (.str i) k pos) ρ c (.str i) c := fun hK L σ H o E Q q => wE_of pe_str (q _ H (Stp.refl _ _) o (.str i))
/-- two in a row -/
theorem ev2 {L : List Addr} {σ : L2.St} {H : Hp} (hK : X.K = F.K) (o : Ok F L c H) (E : Env F L ρ σ H) (ha : EvL X F a ρ c d1 c1) (hb : EvL X F b ρ c1 d2 c2) {R : V → V → Hp → Prop}
    (h : ∀ v w H', Stp F.j H H' → Ok F L c2 H' → Lk F L H' v d1 → Lk F L H' w d2 → R v w H') : wE X a σ H fun x H1 => wE X b σ H1 fun y H2 => R x y H2 :=
  ha hK L σ H o E _ fun v H1 s1 o1 r1 => hb hK L σ H1 o1 (E.step o.jL s1) _ fun w H2 s2 o2 r2 => h v w H2 (s1.trans s2) o2 (r1.stp o.jL s2) r2
/-- an operation on two values, told by data -/
def Op2 (X : Cx) (F : Fx) (r : R2) (d1 d2 d : D) : Prop := X.K = F.K → ∀ (L : List Addr) (c : HO) (H : Hp) (v w : V), Ok F L c H → Lk F L H v d1 → Lk F L H w d2 → ∀ Q : VK, Aft F L H c d Q → r v w H Q
theorem ev_op {r : R2} {op : Operator} (ho : OpR X (binaryOp op) r) (ha : EvL X F a ρ c d1 c1) (hb : EvL X F b ρ c1 d2 c2) (hr : Op2 X F r d1 d2 d) : Ev X F (.BinOp a op b pos) ρ c d c2 := fun hK L σ H o E Q q =>
  wE_of (pe_op ho pe_w pe_w) (ev2 hK o E ha hb fun v w H' s o' r1 r2 => hr hK L c2 H' v w o' r1 r2 _ fun u H2 s2 o2 r3 => q u H2 (s.trans s2) o2 r3)
theorem ev_cmp {r : R2} {op : CmpOp} (ho : OpR X (compareOp op) r) (hm : behindInMarks op b = false) (ha : EvL X F a ρ c d1 c1) (hb : EvL X F b ρ c1 d2 c2) (hr : Op2 X F r d1 d2 d) : Ev X F (.Compare a [op] [b] pos) ρ c d c2 := fun hK L σ H o E Q q =>
  wE_of (pe_cmpR ho pe_w pe_w hm) (ev2 hK o E ha hb fun v w H' s o' r1 r2 => hr hK L c2 H' v w o' r1 r2 _ fun u H2 s2 o2 r3 => q u H2 (s.trans s2) o2 r3)
theorem Lk.vi {L : List Addr} {H : Hp} {v : V} {i : Int} (h : Lk F L H v (.int i)) : v = .int i := by
  cases h with
  | rep r => cases r; rfl
theorem Lk.vb {L : List Addr} {H : Hp} {v : V} {i : Bool} (h : Lk F L H v (.bl i)) : v = .bl i := by
  cases h with
  | rep r => cases r; rfl
theorem Lk.vs {L : List Addr} {H : Hp} {v : V} {i : Str} (h : Lk F L H v (.str i)) : v = .str i := by
  cases h with
  | rep r => cases r; rfl
theorem op2_I0 {g : Int → Int → V} {i k : Int} (h : ∀ (K : PySem.W.Frag) (j : Addr) (G : Hp), Rep K j G (g i k) d) : Op2 X F (rI0 g) (.int i) (.int k) d := fun hK L c H v w o r1 r2 Q q => by
  rw [r1.vi, r2.vi]
  exact ⟨i, k, rfl, rfl, q _ H (Stp.refl _ _) o (h _ _ _)⟩
theorem op2_I {C : Int → Int → Prop} {g : Int → Int → V} {i k : Int} (hc : C i k) (h : ∀ (K : PySem.W.Frag) (j : Addr) (G : Hp), Rep K j G (g i k) d) : Op2 X F (rI C g) (.int i) (.int k) d := fun hK L c H v w o r1 r2 Q q => by
  rw [r1.vi, r2.vi]
  exact ⟨i, k, rfl, rfl, hc, q _ H (Stp.refl _ _) o (h _ _ _)⟩
variable {i k : Int}
theorem ev_add (ha : Ev X F a ρ c (.int i) c1) (hb : Ev X F b ρ c1 (.int k) c2) : Ev X F (.BinOp a .Add b pos) ρ c (.int (i + k)) c2 := ev_op op_add ha.l hb.l (op2_I0 fun _ _ _ => .int _)
theorem ev_sub (ha : Ev X F a ρ c (.int i) c1) (hb : Ev X F b ρ c1 (.int k) c2) : Ev X F (.BinOp a .Sub b pos) ρ c (.int (i - k)) c2 := ev_op op_sub ha.l hb.l (op2_I0 fun _ _ _ => .int _)
theorem ev_mul (ha : Ev X F a ρ c (.int i) c1) (hb : Ev X F b ρ c1 (.int k) c2) (h : CMulW i k) : Ev X F (.BinOp a .Mult b pos) ρ c (.int (i * k)) c2 := ev_op op_mulW ha.l hb.l (op2_I h fun _ _ _ => .int _)
theorem ev_fdiv (ha : Ev X F a ρ c (.int i) c1) (hb : Ev X F b ρ c1 (.int k) c2) (h : CDivW i k) : Ev X F (.BinOp a .FloorDiv b pos) ρ c (.int (i / k)) c2 := ev_op op_fdivW ha.l hb.l (op2_I h fun _ _ _ => .int _)
theorem ev_mod (ha : Ev X F a ρ c (.int i) c1) (hb : Ev X F b ρ c1 (.int k) c2) (h : k ≠ 0) : Ev X F (.BinOp a .Mod b pos) ρ c (.int (i.fmod k)) c2 := ev_op op_modN ha.l hb.l (op2_I h fun _ _ _ => .int _)
theorem ev_lt (ha : Ev X F a ρ c (.int i) c1) (hb : Ev X F b ρ c1 (.int k) c2) : Ev X F (.Compare a [.Lt] [b] pos) ρ c (.bl (decide (i < k))) c2 := ev_cmp op_lt (nomark _) ha.l hb.l (op2_I0 fun _ _ _ => .bl _)
theorem ev_le (ha : Ev X F a ρ c (.int i) c1) (hb : Ev X F b ρ c1 (.int k) c2) : Ev X F (.Compare a [.LtE] [b] pos) ρ c (.bl (decide (i ≤ k))) c2 := ev_cmp op_le (nomark _) ha.l hb.l (op2_I0 fun _ _ _ => .bl _)
theorem ev_gt (ha : Ev X F a ρ c (.int i) c1) (hb : Ev X F b ρ c1 (.int k) c2) : Ev X F (.Compare a [.Gt] [b] pos) ρ c (.bl (decide (i > k))) c2 := ev_cmp op_gt (nomark _) ha.l hb.l (op2_I0 fun _ _ _ => .bl _)
theorem ev_ge (ha : Ev X F a ρ c (.int i) c1) (hb : Ev X F b ρ c1 (.int k) c2) : Ev X F (.Compare a [.GtE] [b] pos) ρ c (.bl (decide (i ≥ k))) c2 := ev_cmp op_ge (nomark _) ha.l hb.l (op2_I0 fun _ _ _ => .bl _)
end
end Fh
end
section
set_option Elab.async false
set_option linter.all false
set_option maxRecDepth 100000
set_option maxHeartbeats 2000000
/-! Arguments, displays, tests, calls of built-ins, subscripts. -/
namespace Fh
open PySem PySem.Spec PyProof.Rows L2
section
variable {X : Cx} {F : Fx} {ρ : Rho} {c c1 c2 c3 : HO} {d d1 d2 : D} {ds : List D} {e ea eb : Expr} {es : List Expr} {pos : Pos}
theorem ea_nil : EvA X F [] ρ c [] c := fun hK L σ H o E Q q => wA_of pa_nil (q [] H (Stp.refl _ _) o .nil)
theorem ea_cons (h : Ev X F e ρ c d c1) (t : EvA X F es ρ c1 ds c2) (he : starEach (e :: es) X.env = (false, eval e X.env) :: starEach es X.env := by kernel_rfl) : EvA X F (e :: es) ρ c (d :: ds) c2 := fun hK L σ H o E Q q => by
  refine wA_of (pa_cons pe_w pa_w he) (h hK L σ H o E _ fun v H1 s1 o1 r1 => ?_)
  exact t hK L σ H1 o1 (E.step o.jL s1) _ fun vs H2 s2 o2 r2 => q _ H2 (s1.trans s2) o2 (.cons (r1.stp o.jL s2) r2)
theorem sz_le {n : Nat} (h : n ≤ 100000) : n ≤ sizeLine := Nat.le_trans h (by decide)
theorem ev_tup (h : EvA X F es ρ c ds c1) (hz : ds.length ≤ sizeLine) {k} : Ev X F (.Tuple es k pos) ρ c (.tup ds) c1 := fun hK L σ H o E Q q => by
  refine wE_of (pe_tup pa_w) (h hK L σ H o E _ fun vs H1 s1 o1 r1 => ⟨by rw [r1.length]; exact hz, fun p hp => ?_⟩)
  refine q _ _ (s1.trans (Stp.new hp)) (o1.new hp) (.tup ?_ (r1.stp o1.jL (Stp.new hp)))
  have np : p ∉ L ++ F.S0 := fun z => by
    obtain ⟨u, h1, _⟩ := o1.tr p z
    rw [hp] at h1; cases h1
  exact SqT.of (by rw [off_eq np, upd_same])
theorem ev_lst (h : EvA X F es ρ c ds c1) (hz : ds.length ≤ sizeLine) : Ev X F (.List es pos) ρ c (.lst ds) c1 := fun hK L σ H o E Q q => by
  refine wE_of (pe_lst pa_w) (h hK L σ H o E _ fun vs H1 s1 o1 r1 => ⟨by rw [r1.length]; exact hz, fun p hp => ?_⟩)
  refine q _ _ (s1.trans (Stp.new hp)) (o1.new hp) (.lst ?_ (r1.stp o1.jL (Stp.new hp)))
  have np : p ∉ L ++ F.S0 := fun z => by
    obtain ⟨u, h1, _⟩ := o1.tr p z
    rw [hp] at h1; cases h1
  exact (by rw [off_eq np, upd_same])
theorem Ok.np {L : List Addr} {H : Hp} {p : Addr} (o : Ok F L c H) (hp : H p = none) : p ∉ L ++ F.S0 := fun z => by
  obtain ⟨u, h1, _⟩ := o.tr p z
  rw [hp] at h1; cases h1
/-- a new tuple, a new list, of known parts -/
theorem Ok.newT {L : List Addr} {H : Hp} {p : Addr} {vs : List V} (o : Ok F L c H) (hp : H p = none) (r : Reps F.K F.j (off (L ++ F.S0) H) vs ds) : Rep F.K F.j (off (L ++ F.S0) (upd H p (.tup vs))) (.ref p) (.tup ds) :=
  .tup (SqT.of (by rw [off_eq (o.np hp), upd_same])) (r.stp o.jL (Stp.new hp))
theorem Ok.newL {L : List Addr} {H : Hp} {p : Addr} {vs : List V} (o : Ok F L c H) (hp : H p = none) (r : Reps F.K F.j (off (L ++ F.S0) H) vs ds) : Rep F.K F.j (off (L ++ F.S0) (upd H p (.lst vs))) (.ref p) (.lst ds) :=
  .lst (by rw [off_eq (o.np hp), upd_same]) (r.stp o.jL (Stp.new hp))
/-- what is read off an object -/
theorem Rep.tupAt {L : List Addr} {H : Hp} {v : V} (r : Rep F.K F.j (off (L ++ F.S0) H) v (.tup ds)) : ∃ p xs, v = .ref p ∧ SqT F.K H p xs ∧ Reps F.K F.j (off (L ++ F.S0) H) xs ds := by
  cases r with
  | tup h r =>
    refine ⟨_, _, rfl, ?_, r⟩
    exact sqT_mono (fun a o e _ => (off_some e).2) h
theorem Lk.tupAt {L : List Addr} {H : Hp} {v : V} (r : Lk F L H v (.tup ds)) : ∃ p xs, v = .ref p ∧ SqT F.K H p xs ∧ Reps F.K F.j (off (L ++ F.S0) H) xs ds := by
  cases r with
  | rep r => exact r.tupAt
/-- a list that is tracked -/
theorem Lk.lstH {L : List Addr} {H : Hp} {v : V} (r : Lk F L H v (.lst ds)) : ∃ p xs, v = .ref p ∧ H p = some (.lst xs) ∧ Reps F.K F.j (off (L ++ F.S0) H) xs ds := by
  cases r with
  | rep r =>
    cases r with
    | lst h r => exact ⟨_, _, rfl, (off_some h).2, r⟩
  | own h n r => exact ⟨_, _, rfl, h, r⟩
theorem Lk.lstAt {L : List Addr} {H : Hp} {v : V} (r : Lk F L H v (.lst ds)) : ∃ p xs, v = .ref p ∧ SqL F.K H p xs ∧ Reps F.K F.j (off (L ++ F.S0) H) xs ds := by
  cases r with
  | rep r =>
    cases r with
    | lst h r => exact ⟨_, _, rfl, SqL.of (off_some h).2, r⟩
  | own h n r => exact ⟨_, _, rfl, SqL.of h, r⟩

/-! ### truth of a bool; tests -/
theorem et_val (h : Ev X F e ρ c (.bl b) c1) (he : ∀ whole, isTrue e X.env whole = (do let v ← whole; standAt e.pos; holding [v] (truthy v)) := by intro _; kernel_rfl) : EvT X F e ρ c b c1 := fun hK L σ H o E Q q =>
  wT_of (pt_val pe_w he) (h hK L σ H o E _ fun v H1 s1 o1 r1 => by
    cases r1
    exact ⟨b, rfl, q H1 s1 o1⟩)
theorem et_cmp {r : R2} {op : CmpOp} (ho : OpR X (compareOp op) r) (hm : behindInMarks op eb = false) (ha : EvL X F ea ρ c d1 c1) (hb : EvL X F eb ρ c1 d2 c2) (hr : Op2 X F r d1 d2 (.bl b)) : EvT X F (.Compare ea [op] [eb] pos) ρ c b c2 := fun hK L σ H o E Q q =>
  wT_of (pt_cmpR ho pe_w pe_w hm) (ev2 hK o E ha hb fun v w H' s o' r1 r2 => hr hK L c2 H' v w o' r1 r2 _ fun u H2 s2 o2 r3 => by
    cases r3
    exact ⟨b, rfl, q H2 (s.trans s2) o2⟩)
theorem et_not (h : EvT X F e ρ c b c1) : EvT X F (.UnaryOp .Not e pos) ρ c (!b) c1 := fun hK L σ H o E Q q =>
  wT_of (pt_not pt_w) (h hK L σ H o E _ fun H1 s1 o1 => q H1 s1 o1)
/-- and, or: a test whatever its whole is -/
def wW (X : Cx) (e : Expr) : TT := fun σ H Q => ∀ (whole : Sem Value) (pins : List (Addr × Obj)) (s : Shared), Inv X pins σ H s → wpAny (model X.prog X.w) X.A (isTrue e X.env whole) (TP X pins σ Q) X.xe s
theorem pw_w : PW X e (wW X e) := ⟨fun whole pins s σ H Q I h => h whole pins s I⟩
theorem wW_of {t : TT} (h : PW X e t) {σ : L2.St} {H : Hp} {Q : Bool → Hp → Prop} (q : t σ H Q) : wW X e σ H Q := fun whole pins s I => h.run whole pins s σ H Q I q
def EvW (X : Cx) (F : Fx) (e : Expr) (ρ : Rho) (c : HO) (b : Bool) (c' : HO) : Prop := X.K = F.K → ∀ (L : List Addr) (σ : L2.St) (H : Hp), Ok F L c H → Env F L ρ σ H → ∀ Q : Bool → Hp → Prop, (∀ H', Stp F.j H H' → Ok F L c' H' → Q b H') → wW X e σ H Q
theorem et_w (h : EvW X F e ρ c b c1) : EvT X F e ρ c b c1 := fun hK L σ H o E Q q => wT_of (PW.pt pw_w) (h hK L σ H o E Q q)
theorem ew_and1 (h : EvT X F e ρ c b c1) : EvW X F (.BoolOp .And [e] pos) ρ c b c1 := fun hK L σ H o E Q q => wW_of (pw_and1 pt_w) (h hK L σ H o E Q q)
theorem ew_or1 (h : EvT X F e ρ c b c1) : EvW X F (.BoolOp .Or [e] pos) ρ c b c1 := fun hK L σ H o E Q q => wW_of (pw_or1 pt_w) (h hK L σ H o E Q q)
theorem ew_and {b1 : Bool} {rest : List Expr} (h : EvT X F ea ρ c b1 c1) (h1 : b1 = true → EvW X F (.BoolOp .And (eb :: rest) pos) ρ c1 b c2) (h0 : b1 = false → b = false ∧ c2 = c1) : EvW X F (.BoolOp .And (ea :: eb :: rest) pos) ρ c b c2 := fun hK L σ H o E Q q =>
  wW_of (pw_and pt_w pw_w) (h hK L σ H o E _ fun H1 s1 o1 => by
    cases b1 with
    | true => exact iteT (h1 rfl hK L σ H1 o1 (E.step o.jL s1) Q fun H2 s2 o2 => q H2 (s1.trans s2) o2)
    | false =>
      obtain ⟨rfl, rfl⟩ := h0 rfl
      exact iteF (q H1 s1 o1))
theorem ew_or {b1 : Bool} {rest : List Expr} (h : EvT X F ea ρ c b1 c1) (h0 : b1 = false → EvW X F (.BoolOp .Or (eb :: rest) pos) ρ c1 b c2) (h1 : b1 = true → b = true ∧ c2 = c1) : EvW X F (.BoolOp .Or (ea :: eb :: rest) pos) ρ c b c2 := fun hK L σ H o E Q q =>
  wW_of (pw_or pt_w pw_w) (h hK L σ H o E _ fun H1 s1 o1 => by
    cases b1 with
    | false => exact iteF (h0 rfl hK L σ H1 o1 (E.step o.jL s1) Q fun H2 s2 o2 => q H2 (s1.trans s2) o2)
    | true =>
      obtain ⟨rfl, rfl⟩ := h1 rfl
      exact iteT (q H1 s1 o1))
/-- as values -/
theorem ev_one {op : BoolOp} (h : Ev X F e ρ c d c1) : Ev X F (.BoolOp op [e] pos) ρ c d c1 := fun hK L σ H o E Q q => wE_of (pe_one pe_w) (h hK L σ H o E Q q)
theorem ev_and {b1 : Bool} {rest : List Expr} (h : Ev X F ea ρ c (.bl b1) c1) (h1 : b1 = true → Ev X F (.BoolOp .And (eb :: rest) pos) ρ c1 d c2) (h0 : b1 = false → d = .bl false ∧ c2 = c1) : Ev X F (.BoolOp .And (ea :: eb :: rest) pos) ρ c d c2 := fun hK L σ H o E Q q =>
  wE_of (pe_and pe_w pe_w) (h hK L σ H o E _ fun v H1 s1 o1 r1 => by
    cases r1
    cases b1 with
    | true => exact ⟨true, rfl, iteT (h1 rfl hK L σ H1 o1 (E.step o.jL s1) Q fun v H2 s2 o2 => q v H2 (s1.trans s2) o2)⟩
    | false =>
      obtain ⟨rfl, rfl⟩ := h0 rfl
      exact ⟨false, rfl, iteF (q _ H1 s1 o1 (.bl false))⟩)
theorem ev_or {b1 : Bool} {rest : List Expr} (h : Ev X F ea ρ c (.bl b1) c1) (h0 : b1 = false → Ev X F (.BoolOp .Or (eb :: rest) pos) ρ c1 d c2) (h1 : b1 = true → d = .bl true ∧ c2 = c1) : Ev X F (.BoolOp .Or (ea :: eb :: rest) pos) ρ c d c2 := fun hK L σ H o E Q q =>
  wE_of (pe_or pe_w pe_w) (h hK L σ H o E _ fun v H1 s1 o1 r1 => by
    cases r1
    cases b1 with
    | false => exact ⟨false, rfl, iteF (h0 rfl hK L σ H1 o1 (E.step o.jL s1) Q fun v H2 s2 o2 => q v H2 (s1.trans s2) o2)⟩
    | true =>
      obtain ⟨rfl, rfl⟩ := h1 rfl
      exact ⟨true, rfl, iteT (q _ H1 s1 o1 (.bl true))⟩)
theorem ev_not (h : Ev X F e ρ c (.bl b) c1) : Ev X F (.UnaryOp .Not e pos) ρ c (.bl (!b)) c1 := fun hK L σ H o E Q q =>
  wE_of (pe_not pe_w) (h hK L σ H o E _ fun v H1 s1 o1 r1 => by
    cases r1
    exact ⟨b, rfl, q _ H1 s1 o1 (.bl _)⟩)
theorem ev_if {et : Expr} (h : EvT X F et ρ c b c1) (h1 : b = true → Ev X F ea ρ c1 d c2) (h0 : b = false → Ev X F eb ρ c1 d c2) : Ev X F (.IfExp et ea eb pos) ρ c d c2 := fun hK L σ H o E Q q =>
  wE_of (pe_ifExp pt_w pe_w pe_w) (h hK L σ H o E _ fun H1 s1 o1 => by
    cases b with
    | true => exact iteT (h1 rfl hK L σ H1 o1 (E.step o.jL s1) Q fun v H2 s2 o2 => q v H2 (s1.trans s2) o2)
    | false => exact iteF (h0 rfl hK L σ H1 o1 (E.step o.jL s1) Q fun v H2 s2 o2 => q v H2 (s1.trans s2) o2))
theorem ev_neg {i : Int} (h : Ev X F e ρ c (.int i) c1) : Ev X F (.UnaryOp .USub e pos) ρ c (.int (-i)) c1 := fun hK L σ H o E Q q =>
  wE_of (pe_un un_neg pe_w) (h hK L σ H o E _ fun v H1 s1 o1 r1 => by
    cases r1
    exact ⟨i, rfl, q _ H1 s1 o1 (.int _)⟩)

/-! ### built-ins -/
def OpA (X : Cx) (F : Fx) (r : List V → Hp → VK → Prop) (ds : List D) (d : D) : Prop := X.K = F.K → ∀ (L : List Addr) (c : HO) (H : Hp) (vs : List V), Ok F L c H → Reps F.K F.j (off (L ++ F.S0) H) vs ds → ∀ Q : VK, Aft F L H c d Q → r vs H Q
def OpA1 (X : Cx) (F : Fx) (r : List V → Hp → VK → Prop) (d1 d : D) : Prop := X.K = F.K → ∀ (L : List Addr) (c : HO) (H : Hp) (v : V), Ok F L c H → Lk F L H v d1 → ∀ Q : VK, Aft F L H c d Q → r [v] H Q
theorem ev_callB {x : Str} {p : Pos} {id : String} {r : List V → Hp → VK → Prop} (hc : CallR X (.builtin id) r) (hg : Gl X x) (hm : X.mg x = none) (hv : bootBuiltins x = some (.builtin id)) (h : EvA X F (e :: es) ρ c ds c1) (hr : OpA X F r ds d)
    (hn : x ≠ "__name__" := by decide) (hd : (x == ("__debug__" : Str)) = false := by kernel_rfl) (he : starEach (e :: es) X.env = (false, eval e X.env) :: starEach es X.env := by kernel_rfl) (hpl : (backTo pos (starEach es X.env)).any (·.1) = false := by kernel_rfl) :
    Ev X F (.Call (.Name x p) (e :: es) [] pos) ρ c d c1 := fun hK L σ H o E Q q =>
  wE_of (pe_callB hc hg hm hv pa_w hn hd he hpl) (h hK L σ H o E _ fun vs H1 s1 o1 r1 => hr hK L c1 H1 vs o1 r1 Q fun v H2 s2 o2 r2 => q v H2 (s1.trans s2) o2 r2)
theorem ev_callT {x : Str} {p : Pos} {id : String} {r : List V → Hp → VK → Prop} (hc : CallR X (.type id) r) (hg : Gl X x) (hm : X.mg x = none) (hv : bootBuiltins x = some (.type id)) (h : EvA X F (e :: es) ρ c ds c1) (hr : OpA X F r ds d)
    (hn : x ≠ "__name__" := by decide) (hd : (x == ("__debug__" : Str)) = false := by kernel_rfl) (he : starEach (e :: es) X.env = (false, eval e X.env) :: starEach es X.env := by kernel_rfl) (hpl : (backTo pos (starEach es X.env)).any (·.1) = false := by kernel_rfl) :
    Ev X F (.Call (.Name x p) (e :: es) [] pos) ρ c d c1 := fun hK L σ H o E Q q =>
  wE_of (pe_callTy hc hg hm hv pa_w hn hd he hpl) (h hK L σ H o E _ fun vs H1 s1 o1 r1 => hr hK L c1 H1 vs o1 r1 Q fun v H2 s2 o2 r2 => q v H2 (s1.trans s2) o2 r2)
/-- one argument, that may be the body's own list -/
theorem ev_callB1 {x : Str} {p : Pos} {id : String} {r : List V → Hp → VK → Prop} (hc : CallR X (.builtin id) r) (hg : Gl X x) (hm : X.mg x = none) (hv : bootBuiltins x = some (.builtin id)) (h : EvL X F e ρ c d1 c1) (hr : OpA1 X F r d1 d)
    (hn : x ≠ "__name__" := by decide) (hd : (x == ("__debug__" : Str)) = false := by kernel_rfl) (he : starEach [e] X.env = (false, eval e X.env) :: starEach [] X.env := by kernel_rfl) :
    Ev X F (.Call (.Name x p) [e] [] pos) ρ c d c1 := fun hK L σ H o E Q q =>
  wE_of (pe_callB hc hg hm hv (pa_cons pe_w pa_nil he) hn hd he rfl) (h hK L σ H o E _ fun v H1 s1 o1 r1 => hr hK L c1 H1 v o1 r1 Q fun v H2 s2 o2 r2 => q v H2 (s1.trans s2) o2 r2)
theorem ev_callT1 {x : Str} {p : Pos} {id : String} {r : List V → Hp → VK → Prop} (hc : CallR X (.type id) r) (hg : Gl X x) (hm : X.mg x = none) (hv : bootBuiltins x = some (.type id)) (h : EvL X F e ρ c d1 c1) (hr : OpA1 X F r d1 d)
    (hn : x ≠ "__name__" := by decide) (hd : (x == ("__debug__" : Str)) = false := by kernel_rfl) (he : starEach [e] X.env = (false, eval e X.env) :: starEach [] X.env := by kernel_rfl) :
    Ev X F (.Call (.Name x p) [e] [] pos) ρ c d c1 := fun hK L σ H o E Q q =>
  wE_of (pe_callTy hc hg hm hv (pa_cons pe_w pa_nil he) hn hd he rfl) (h hK L σ H o E _ fun v H1 s1 o1 r1 => hr hK L c1 H1 v o1 r1 Q fun v H2 s2 o2 r2 => q v H2 (s1.trans s2) o2 r2)

/-- len -/
def D.items : D → Option (List D)
  | .tup l => some l
  | .lst l => some l
  | .scr ns => some (ns.map D.int)
  | _ => none
theorem reps_ints {K : PySem.W.Frag} {j : Addr} {G : Hp} : ∀ ns : List Int, Reps K j G (ns.map V.int) (ns.map D.int)
  | [] => .nil
  | n :: ns => .cons (.int n) (reps_ints ns)
theorem Lk.items {L : List Addr} {H : Hp} {v : V} {l : List D} (hl : d.items = some l) (r : Lk F L H v d) : ∃ p xs, v = .ref p ∧ (SqL F.K H p xs ∨ SqT F.K H p xs) ∧ Reps F.K F.j (off (L ++ F.S0) H) xs l := by
  cases d with
  | tup l' =>
    cases hl
    obtain ⟨p, xs, h1, h2, h3⟩ := r.tupAt
    exact ⟨p, xs, h1, .inr h2, h3⟩
  | lst l' =>
    cases hl
    obtain ⟨p, xs, h1, h2, h3⟩ := r.lstAt
    exact ⟨p, xs, h1, .inl h2, h3⟩
  | scr ns =>
    cases hl
    cases r with
    | rep r =>
      cases r with
      | scr h => exact ⟨_, _, rfl, .inl (sqL_mono (fun a o e _ => (off_some e).2) h), reps_ints ns⟩
  | _ => cases hl
theorem ev_len {l : List D} {p : Pos} (hg : Gl X "len") (hm : X.mg "len" = none) (h : EvL X F e ρ c d c1) (hl : d.items = some l) (he : starEach [e] X.env = (false, eval e X.env) :: starEach [] X.env := by kernel_rfl) : Ev X F (.Call (.Name "len" p) [e] [] pos) ρ c (.int (l.length : Int)) c1 :=
  ev_callB1 call_len_seq hg hm PySem.boot_len h (fun hK L c H v o r Q q => by
    obtain ⟨p, xs, rfl, h1, h2⟩ := r.items hl
    rw [← hK] at h1
    refine ⟨p, xs, rfl, h1, q _ H (Stp.refl _ _) o ?_⟩
    rw [h2.length]
    exact .int _) (by decide) (by decide) he
theorem ev_int1 {i : Int} {p : Pos} (hg : Gl X "int") (hm : X.mg "int" = none) (h : Ev X F e ρ c (.int i) c1) (he : starEach [e] X.env = (false, eval e X.env) :: starEach [] X.env := by kernel_rfl) : Ev X F (.Call (.Name "int" p) [e] [] pos) ρ c (.int i) c1 :=
  ev_callT1 call_int1 hg hm (by decide +kernel) h.l (fun hK L c H v o r Q q => by
    rw [r.vi]
    exact .inl ⟨i, rfl, q _ H (Stp.refl _ _) o (.int i)⟩) (by decide) (by decide) he
theorem ev_intb {i : Bool} {p : Pos} (hg : Gl X "int") (hm : X.mg "int" = none) (h : Ev X F e ρ c (.bl i) c1) (he : starEach [e] X.env = (false, eval e X.env) :: starEach [] X.env := by kernel_rfl) : Ev X F (.Call (.Name "int" p) [e] [] pos) ρ c (.int (if i = true then 1 else 0)) c1 :=
  ev_callT1 call_int1 hg hm (by decide +kernel) h.l (fun hK L c H v o r Q q => by
    rw [r.vb]
    exact .inr ⟨i, rfl, q _ H (Stp.refl _ _) o (.int _)⟩) (by decide) (by decide) he
theorem ev_list1 {l : List D} {p : Pos} (hg : Gl X "list") (hm : X.mg "list" = none) (h : EvL X F e ρ c d c1) (hl : d.items = some l) (he : starEach [e] X.env = (false, eval e X.env) :: starEach [] X.env := by kernel_rfl) : Ev X F (.Call (.Name "list" p) [e] [] pos) ρ c (.lst l) c1 :=
  ev_callT1 call_list_of hg hm (by decide +kernel) h (fun hK L c H v o r Q q => by
    obtain ⟨p, xs, rfl, h1, h2⟩ := r.items hl
    rw [← hK] at h1
    exact ⟨p, xs, rfl, h1, fun l hp => q _ _ (Stp.new hp) (o.new hp) (o.newL hp h2)⟩) (by decide) (by decide) he
theorem ev_tuple1 {l : List D} {p : Pos} (hg : Gl X "tuple") (hm : X.mg "tuple" = none) (h : EvL X F e ρ c (.lst l) c1) (he : starEach [e] X.env = (false, eval e X.env) :: starEach [] X.env := by kernel_rfl) : Ev X F (.Call (.Name "tuple" p) [e] [] pos) ρ c (.tup l) c1 :=
  ev_callT1 call_tuple_of hg hm (by decide +kernel) h (fun hK L c H v o r Q q => by
    obtain ⟨p, xs, rfl, h1, h2⟩ := r.lstAt
    rw [← hK] at h1
    exact ⟨p, xs, rfl, .inl ⟨h1, fun l hp => q _ _ (Stp.new hp) (o.new hp) (o.newT hp h2)⟩⟩) (by decide) (by decide) he
end
end Fh
end
section
set_option Elab.async false
set_option linter.all false
set_option maxRecDepth 100000
set_option maxHeartbeats 2000000
/-! Equality, types, subscripts, sums of sequences. -/
namespace Fh
open PySem PySem.Spec PyProof.Rows L2

/-! ### equality -/
mutual
def D.py : D → PyData
  | .non => .none
  | .bl b => .bool b
  | .int i => .int i
  | .str s => .str s
  | .tup l => .tuple (D.pys l)
  | .lst l => .list (D.pys l)
  | .jar => .none
  | .ob _ => .none
  | .scr ns => .list (ns.map .int)
  | .dct _ _ => .none
def D.pys : List D → List PyData
  | [] => []
  | d :: l => d.py :: D.pys l
end
mutual
def D.plain : D → Bool
  | .non => true
  | .bl _ => true
  | .int _ => true
  | .str _ => true
  | .tup l => D.plains l
  | .lst l => D.plains l
  | .jar => false
  | .ob _ => false
  | .scr _ => true
  | .dct _ _ => false
def D.plains : List D → Bool
  | [] => true
  | d :: l => d.plain && D.plains l
end
theorem dps_ints {K : PySem.W.Frag} {H : Hp} : ∀ ns : List Int, DpAll K H (ns.map V.int) (ns.map PyData.int)
  | [] => .nil
  | n :: ns => .cons (.int n) (dps_ints ns)
mutual
theorem dp_of {K : PySem.W.Frag} {j : Addr} {G H : Hp} (e : ∀ a o, G a = some o → (∀ ps, o ≠ .tbl ps) → H a = some o) : ∀ {v : V} {d : D}, Rep K j G v d → d.plain = true → Dp K H v d.py
  | _, _, .non, _ => .non
  | _, _, .bl b, _ => .bl b
  | _, _, .int i, _ => .int i
  | _, _, .str s, _ => .str s
  | _, _, .tup h r, z => .tup (sqT_mono e h) (dps_of e r z)
  | _, _, .lst h r, z => .lst (SqL.of (e _ _ h (fun ps => by intro q; cases q))) (dps_of e r z)
  | _, _, .jar, z => nomatch z
  | _, _, .ob _, z => nomatch z
  | _, _, .scr h, _ => .lst (sqL_mono e h) (dps_ints _)
  | _, _, .dct _ _ _, z => nomatch z
theorem dps_of {K : PySem.W.Frag} {j : Addr} {G H : Hp} (e : ∀ a o, G a = some o → (∀ ps, o ≠ .tbl ps) → H a = some o) : ∀ {vs : List V} {ds : List D}, Reps K j G vs ds → D.plains ds = true → DpAll K H vs (D.pys ds)
  | _, _, .nil, _ => .nil
  | _, _, .cons h t, z => by
    have z' := Bool.and_eq_true_iff.mp (show (_ && _) = true from z)
    exact .cons (dp_of e h z'.1) (dps_of e t z'.2)
end
/-- data that may be compared -/
def D.eqs (d : D) : Bool := d.plain && SeqAt.shaped d.py
theorem Lk.dp {F : Fx} {L : List Addr} {H : Hp} {v : V} {d : D} (r : Lk F L H v d) (h : d.plain = true) : Dp F.K H v d.py := by
  cases r with
  | rep r => exact dp_of (fun a o e _ => (off_some e).2) r h
  | own hp n r => exact .lst (SqL.of hp) (dps_of (fun a o e _ => (off_some e).2) r h)
section
variable {X : Cx} {F : Fx} {ρ : Rho} {c c1 c2 c3 : HO} {d d1 d2 : D} {ds es' : List D} {e ea eb : Expr} {es : List Expr} {pos : Pos}
theorem op2_eqD (h1 : d1.eqs = true) (h2 : d2.eqs = true) : Op2 X F (rEqD X.K) d1 d2 (.bl (PyData.eqv d1.py d2.py)) := fun hK L c H v w o r1 r2 Q q => by
  have a := Bool.and_eq_true_iff.mp h1
  have b := Bool.and_eq_true_iff.mp h2
  rw [hK]
  exact ⟨_, _, r1.dp a.1, r2.dp b.1, a.2, b.2, q _ H (Stp.refl _ _) o (.bl _)⟩
theorem op2_neD (h1 : d1.eqs = true) (h2 : d2.eqs = true) : Op2 X F (rNeD X.K) d1 d2 (.bl (!PyData.eqv d1.py d2.py)) := fun hK L c H v w o r1 r2 Q q => by
  have a := Bool.and_eq_true_iff.mp h1
  have b := Bool.and_eq_true_iff.mp h2
  rw [hK]
  exact ⟨_, _, r1.dp a.1, r2.dp b.1, a.2, b.2, q _ H (Stp.refl _ _) o (.bl _)⟩
theorem ev_eq (hu : X.A.units + 64 < cLine) (ha : EvL X F ea ρ c d1 c1) (hb : EvL X F eb ρ c1 d2 c2) (h1 : d1.eqs = true) (h2 : d2.eqs = true) : Ev X F (.Compare ea [.Eq] [eb] pos) ρ c (.bl (PyData.eqv d1.py d2.py)) c2 := ev_cmp (op_eqD hu) (nomark _) ha hb (op2_eqD h1 h2)
theorem ev_ne (hu : X.A.units + 64 < cLine) (ha : EvL X F ea ρ c d1 c1) (hb : EvL X F eb ρ c1 d2 c2) (h1 : d1.eqs = true) (h2 : d2.eqs = true) : Ev X F (.Compare ea [.NotEq] [eb] pos) ρ c (.bl (!PyData.eqv d1.py d2.py)) c2 := ev_cmp (op_neD hu) (nomark _) ha hb (op2_neD h1 h2)
theorem et_eq (hu : X.A.units + 64 < cLine) (ha : EvL X F ea ρ c d1 c1) (hb : EvL X F eb ρ c1 d2 c2) (h1 : d1.eqs = true) (h2 : d2.eqs = true) : EvT X F (.Compare ea [.Eq] [eb] pos) ρ c (PyData.eqv d1.py d2.py) c2 := et_cmp (op_eqD hu) (nomark _) ha hb (op2_eqD h1 h2)
theorem et_ne (hu : X.A.units + 64 < cLine) (ha : EvL X F ea ρ c d1 c1) (hb : EvL X F eb ρ c1 d2 c2) (h1 : d1.eqs = true) (h2 : d2.eqs = true) : EvT X F (.Compare ea [.NotEq] [eb] pos) ρ c (!PyData.eqv d1.py d2.py) c2 := et_cmp (op_neD hu) (nomark _) ha hb (op2_neD h1 h2)
variable {i k : Int}
/-- ints: == without a bound -/
theorem op2_eqI : Op2 X F rEq (.int i) (.int k) (.bl (decide (i = k))) := fun hK L c H v w o r1 r2 Q q => by
  rw [r1.vi, r2.vi]
  refine ⟨rfl, ?_⟩
  have e : decide (V.int i = V.int k) = decide (i = k) := by simp
  rw [e]
  exact q _ H (Stp.refl _ _) o (.bl _)
theorem op2_neI : Op2 X F rNe (.int i) (.int k) (.bl (!decide (i = k))) := fun hK L c H v w o r1 r2 Q q => by
  rw [r1.vi, r2.vi]
  refine ⟨rfl, ?_⟩
  have e : decide (V.int i = V.int k) = decide (i = k) := by simp
  rw [e]
  exact q _ H (Stp.refl _ _) o (.bl _)
theorem ev_eqI (ha : Ev X F ea ρ c (.int i) c1) (hb : Ev X F eb ρ c1 (.int k) c2) : Ev X F (.Compare ea [.Eq] [eb] pos) ρ c (.bl (decide (i = k))) c2 := ev_cmp op_eq (nomark _) ha.l hb.l op2_eqI
theorem ev_neI (ha : Ev X F ea ρ c (.int i) c1) (hb : Ev X F eb ρ c1 (.int k) c2) : Ev X F (.Compare ea [.NotEq] [eb] pos) ρ c (.bl (!decide (i = k))) c2 := ev_cmp op_ne (nomark _) ha.l hb.l op2_neI
theorem et_eqI (ha : Ev X F ea ρ c (.int i) c1) (hb : Ev X F eb ρ c1 (.int k) c2) : EvT X F (.Compare ea [.Eq] [eb] pos) ρ c (decide (i = k)) c2 := et_cmp op_eq (nomark _) ha.l hb.l op2_eqI
theorem et_neI (ha : Ev X F ea ρ c (.int i) c1) (hb : Ev X F eb ρ c1 (.int k) c2) : EvT X F (.Compare ea [.NotEq] [eb] pos) ρ c (!decide (i = k)) c2 := et_cmp op_ne (nomark _) ha.l hb.l op2_neI
theorem et_lt (ha : Ev X F ea ρ c (.int i) c1) (hb : Ev X F eb ρ c1 (.int k) c2) : EvT X F (.Compare ea [.Lt] [eb] pos) ρ c (decide (i < k)) c2 := et_cmp op_lt (nomark _) ha.l hb.l (op2_I0 fun _ _ _ => .bl _)
theorem et_le (ha : Ev X F ea ρ c (.int i) c1) (hb : Ev X F eb ρ c1 (.int k) c2) : EvT X F (.Compare ea [.LtE] [eb] pos) ρ c (decide (i ≤ k)) c2 := et_cmp op_le (nomark _) ha.l hb.l (op2_I0 fun _ _ _ => .bl _)
theorem et_gt (ha : Ev X F ea ρ c (.int i) c1) (hb : Ev X F eb ρ c1 (.int k) c2) : EvT X F (.Compare ea [.Gt] [eb] pos) ρ c (decide (i > k)) c2 := et_cmp op_gt (nomark _) ha.l hb.l (op2_I0 fun _ _ _ => .bl _)
theorem et_ge (ha : Ev X F ea ρ c (.int i) c1) (hb : Ev X F eb ρ c1 (.int k) c2) : EvT X F (.Compare ea [.GtE] [eb] pos) ρ c (decide (i ≥ k)) c2 := et_cmp op_ge (nomark _) ha.l hb.l (op2_I0 fun _ _ _ => .bl _)

/-! ### None, bools, types -/
def D.isN : D → Bool
  | .non => true
  | _ => false
def D.known : D → Bool
  | .ob _ => false
  | _ => true
theorem Lk.isN {L : List Addr} {H : Hp} {v : V} (r : Lk F L H v d) (hk : d.known = true) : decide (v = V.non) = d.isN := by
  cases r with
  | rep r => cases r <;> first | rfl | cases hk
  | own h n r => rfl
theorem ev_isN {kk pos'} (ha : EvL X F ea ρ c d c1) (hk : d.known = true) : Ev X F (.Compare ea [.Is] [.Constant .none kk pos'] pos) ρ c (.bl d.isN) c1 := ev_cmp op_isN (nomark _) ha ev_non.l (fun hK L c H v w o r1 r2 Q q => by
  have e : w = V.non := by
    cases r2 with
    | rep r => cases r; rfl
  refine ⟨e, ?_⟩
  rw [r1.isN hk]
  exact q _ H (Stp.refl _ _) o (.bl _))
theorem ev_notN {kk pos'} (ha : EvL X F ea ρ c d c1) (hk : d.known = true) : Ev X F (.Compare ea [.IsNot] [.Constant .none kk pos'] pos) ρ c (.bl (!d.isN)) c1 := ev_cmp op_notN (nomark _) ha ev_non.l (fun hK L c H v w o r1 r2 Q q => by
  have e : w = V.non := by
    cases r2 with
    | rep r => cases r; rfl
  refine ⟨e, ?_⟩
  rw [r1.isN hk]
  exact q _ H (Stp.refl _ _) o (.bl _))
theorem et_isN {kk pos'} (ha : EvL X F ea ρ c d c1) (hk : d.known = true) : EvT X F (.Compare ea [.Is] [.Constant .none kk pos'] pos) ρ c d.isN c1 := et_cmp op_isN (nomark _) ha ev_non.l (fun hK L c H v w o r1 r2 Q q => by
  have e : w = V.non := by
    cases r2 with
    | rep r => cases r; rfl
  refine ⟨e, ?_⟩
  rw [r1.isN hk]
  exact q _ H (Stp.refl _ _) o (.bl _))
theorem et_notN {kk pos'} (ha : EvL X F ea ρ c d c1) (hk : d.known = true) : EvT X F (.Compare ea [.IsNot] [.Constant .none kk pos'] pos) ρ c (!d.isN) c1 := et_cmp op_notN (nomark _) ha ev_non.l (fun hK L c H v w o r1 r2 Q q => by
  have e : w = V.non := by
    cases r2 with
    | rep r => cases r; rfl
  refine ⟨e, ?_⟩
  rw [r1.isN hk]
  exact q _ H (Stp.refl _ _) o (.bl _))
/-- the type's name -/
def D.ty : D → String
  | .non => "NoneType"
  | .bl _ => "bool"
  | .int _ => "int"
  | .str _ => "str"
  | .tup _ => "tuple"
  | .lst _ => "list"
  | .jar => "list"
  | .ob _ => "object"
  | .scr _ => "list"
  | .dct _ _ => "dict"
theorem tyX_T {K : PySem.W.Frag} {H : Hp} {p : Addr} {xs : List V} (h : SqT K H p xs) : TyX K H (.ref p) (.type "tuple") := by
  rcases h with (h | ⟨o, h⟩) | ⟨o, its, n, hk, hc, _⟩
  · exact .base (.tup h)
  · exact .fTuple h
  · exact .kTuple hk hc
theorem tyX_L {K : PySem.W.Frag} {H : Hp} {p : Addr} {xs : List V} (h : SqL K H p xs) : TyX K H (.ref p) (.type "list") := by
  rcases h with (h | ⟨o, h⟩) | ⟨o, its, n, hk, hc, _⟩
  · exact .base (.lst h)
  · exact .base (.frz h)
  · exact .kList hk hc
/-- the root alone is asked -/
def D.rooted : D → Bool
  | .jar => false
  | .ob _ => false
  | .dct _ _ => false
  | _ => true
theorem Lk.tyB' {L : List Addr} {H : Hp} {v : V} (r : Lk F L H v d) (h : d.rooted = true) : TyB F.K H v d.ty := by
  cases r with
  | rep r =>
    cases r with
    | non => exact .non
    | bl b => exact .bl b
    | int i => exact .int i
    | str s => exact .str s
    | tup hs r => exact .tup (sqT_mono (fun a o e _ => (off_some e).2) hs)
    | lst hs r => exact .lst (SqL.of (off_some hs).2)
    | scr hs => exact .lst (sqL_mono (fun a o e _ => (off_some e).2) hs)
    | jar => cases h
    | ob v => cases h
    | dct _ _ _ => cases h
  | own hp n r => exact .lst (SqL.of hp)
theorem Lk.tyX' {L : List Addr} {H : Hp} {v : V} (r : Lk F L H v d) (h : d.rooted = true) : TyX F.K H v (.type d.ty) := by
  cases r with
  | rep r =>
    cases r with
    | non => exact .base .non
    | bl b => exact .base (.bl b)
    | int i => exact .base (.int i)
    | str s => exact .base (.str s)
    | tup hs r => exact tyX_T (sqT_mono (fun a o e _ => (off_some e).2) hs)
    | lst hs r => exact .base (.lst (off_some hs).2)
    | scr hs => exact tyX_L (sqL_mono (fun a o e _ => (off_some e).2) hs)
    | jar => cases h
    | ob v => cases h
    | dct _ _ _ => cases h
  | own hp n r => exact .base (.lst hp)
/-- a built-in class by its name, as a value -/
theorem ev_ty {x : Str} {T : String} (hg : Gl X x) (hm : X.mg x = none) (hv : bootBuiltins x = some (.type T)) (hn : x ≠ "__name__" := by decide) (hd : (x == ("__debug__" : Str)) = false := by kernel_rfl) : Ev X F (.Name x pos) ρ c (.ob (.ty T)) c := fun hK L σ H o E Q q =>
  wE_of (pe_bltn (v := .ty T) hg hm hv rfl hn hd) (q _ H (Stp.refl _ _) o (.ob _))
/-- type(x) is T -/
theorem ev_type {p : Pos} (hg : Gl X "type") (hm : X.mg "type" = none) (h : EvL X F e ρ c d c1) (hr : d.rooted = true) (he : starEach [e] X.env = (false, eval e X.env) :: starEach [] X.env := by kernel_rfl) : Ev X F (.Call (.Name "type" p) [e] [] pos) ρ c (.ob (.ty d.ty)) c1 :=
  ev_callT1 call_type1 hg hm (by decide +kernel) h (fun hK L c H v o r Q q => by
    rw [hK]
    exact ⟨v, _, rfl, r.tyB' hr, q _ H (Stp.refl _ _) o (.ob _)⟩) (by decide) (by decide) he
theorem op2_isTy {m n : String} : Op2 X F (fun x y H Q => ∃ a b, x = .ty a ∧ y = .ty b ∧ Q (.bl (decide (a = b))) H) (.ob (.ty m)) (.ob (.ty n)) (.bl (decide (m = n))) := fun hK L c H v w o r1 r2 Q q => by
  have e1 : v = .ty m := by
    cases r1 with
    | rep r => cases r; rfl
  have e2 : w = .ty n := by
    cases r2 with
    | rep r => cases r; rfl
  exact ⟨m, n, e1, e2, q _ H (Stp.refl _ _) o (.bl _)⟩
def rNTy : R2 := fun x y H Q => ∃ a b, x = .ty a ∧ y = .ty b ∧ Q (.bl (!decide (a = b))) H
theorem op2_notTy {m n : String} : Op2 X F rNTy (.ob (.ty m)) (.ob (.ty n)) (.bl (!decide (m = n))) := fun hK L c H v w o r1 r2 Q q => by
  have e1 : v = .ty m := by
    cases r1 with
    | rep r => cases r; rfl
  have e2 : w = .ty n := by
    cases r2 with
    | rep r => cases r; rfl
  exact ⟨m, n, e1, e2, q _ H (Stp.refl _ _) o (.bl _)⟩
theorem ev_isTy {m n : String} (ha : Ev X F ea ρ c (.ob (.ty m)) c1) (hb : Ev X F eb ρ c1 (.ob (.ty n)) c2) : Ev X F (.Compare ea [.Is] [eb] pos) ρ c (.bl (decide (m = n))) c2 := ev_cmp op_isTyB (nomark _) ha.l hb.l op2_isTy
theorem et_notTy {m n : String} (ha : Ev X F ea ρ c (.ob (.ty m)) c1) (hb : Ev X F eb ρ c1 (.ob (.ty n)) c2) : EvT X F (.Compare ea [.IsNot] [eb] pos) ρ c (!decide (m = n)) c2 := et_cmp op_notTyB (nomark _) ha.l hb.l op2_notTy
/-- told is True, of bools -/
theorem ev_isB {m n : Bool} (ha : Ev X F ea ρ c (.bl m) c1) (hb : Ev X F eb ρ c1 (.bl n) c2) : Ev X F (.Compare ea [.Is] [eb] pos) ρ c (.bl (decide (m = n))) c2 := ev_cmp op_is_bl (nomark _) ha.l hb.l (fun hK L c H v w o r1 r2 Q q => by
  rw [r1.vb, r2.vb]
  exact ⟨m, n, rfl, rfl, q _ H (Stp.refl _ _) o (.bl _)⟩)
/-- isinstance(x, T), T a built-in class -/
theorem ev_isi {p : Pos} {e2 : Expr} {T : String} {b : Bool} (hg : Gl X "isinstance") (hm : X.mg "isinstance" = none) (h : Ev X F e ρ c d c1) (h2 : Ev X F e2 ρ c1 (.ob (.ty T)) c2) (hr : d.rooted = true) (hb : kitB d.ty T = some b)
    (he : starEach [e, e2] X.env = (false, eval e X.env) :: starEach [e2] X.env := by kernel_rfl) (he2 : starEach [e2] X.env = (false, eval e2 X.env) :: starEach [] X.env := by kernel_rfl) (hpl : (backTo pos (starEach [e2] X.env)).any (·.1) = false := by kernel_rfl) :
    Ev X F (.Call (.Name "isinstance" p) [e, e2] [] pos) ρ c (.bl b) c2 :=
  ev_callB call_isi hg hm (by decide +kernel) (ea_cons h (ea_cons h2 ea_nil he2) he) (fun hK L c H vs o r Q q => by
    cases r with
    | cons r1 r2 =>
      cases r2 with
      | cons r2 r3 =>
        cases r3
        cases r2
        rw [hK]
        exact ⟨_, _, _, _, b, rfl, .ty T, (Lk.rep r1).tyX' hr, kit_ty hb, q _ H (Stp.refl _ _) o (.bl _)⟩) (by decide) (by decide) he hpl
end
end Fh
end
section
set_option Elab.async false
set_option linter.all false
set_option maxRecDepth 100000
set_option maxHeartbeats 2000000
/-! Subscripts, slices, sums; statements; defs. -/
namespace Fh
open PySem PySem.Spec PyProof.Rows L2
/-- the jar's two numbers -/
abbrev J (a b : Int) : HO := .lst [.int a, .int b]
def cutA {α : Type} (xs : List α) (lo hi : Option Int) : List α := (xs.drop (HT.sIx xs.length 0 lo)).take (HT.sIx xs.length xs.length hi - HT.sIx xs.length 0 lo)
theorem reps_atI {K : PySem.W.Frag} {j : Addr} {G : Hp} {vs : List V} {ds : List D} {i : Int} {d : D} (r : Reps K j G vs ds) (h : atI ds i = some d) : ∃ v, atI vs i = some v ∧ Rep K j G v d := by
  unfold atI at h ⊢
  rw [r.length]
  cases e : ixN ds.length i with
  | none => rw [e] at h; cases h
  | some k =>
    rw [e] at h
    exact r.at h
theorem reps_cut {K : PySem.W.Frag} {j : Addr} {G : Hp} {vs : List V} {ds : List D} (r : Reps K j G vs ds) (lo hi : Option Int) : Reps K j G (cutV vs lo hi) (cutA ds lo hi) := by
  unfold cutV cutA
  rw [r.length]
  exact (r.drop _).take _
section
variable {X : Cx} {F : Fx} {ρ : Rho} {c c1 c2 c3 : HO} {d d1 d2 : D} {ds : List D} {e ea eb : Expr} {es : List Expr} {pos : Pos}
theorem ev_ix {l : List D} {i : Int} (ha : EvL X F ea ρ c d1 c1) (hb : Ev X F eb ρ c1 (.int i) c2) (hl : d1.items = some l) (hi : atI l i = some d) (hs : PlainIx eb := by exact fun _ _ => rfl) : Ev X F (.Subscript ea eb pos) ρ c d c2 := fun hK L σ H o E Q q =>
  wE_of (pe_ix ix_seq pe_w pe_w hs) (ev2 hK o E ha hb.l fun v w H' s o' r1 r2 => by
    rw [r2.vi]
    obtain ⟨p, xs, rfl, h1, h2⟩ := r1.items hl
    obtain ⟨v, h3, h4⟩ := reps_atI h2 hi
    rw [← hK] at h1
    rcases h1 with h1 | h1
    · exact .inl ⟨p, xs, i, v, rfl, rfl, h1, h3, q v H' s o' h4⟩
    · exact .inr (.inl ⟨p, xs, i, v, rfl, rfl, h1, h3, q v H' s o' h4⟩))
/-- jar[0], jar[1] -/
theorem ev_jar0 {a b : Int} (ha : Ev X F ea ρ c .jar c1) (hb : Ev X F eb ρ c1 (.int 0) (J a b)) (hs : PlainIx eb := by exact fun _ _ => rfl) : Ev X F (.Subscript ea eb pos) ρ c (.int a) (J a b) := fun hK L σ H o E Q q =>
  wE_of (pe_ix ix_list pe_w pe_w hs) (ev2 hK o E ha.l hb.l fun v w H' s o' r1 r2 => by
    rw [r2.vi]
    have e : v = .ref F.j := by
      cases r1 with
      | rep r => cases r; rfl
    rw [e]
    exact ⟨F.j, _, 0, .int a, rfl, rfl, SqL.of o'.jc, rfl, q _ H' s o' (.int a)⟩)
theorem ev_jar1 {a b : Int} (ha : Ev X F ea ρ c .jar c1) (hb : Ev X F eb ρ c1 (.int 1) (J a b)) (hs : PlainIx eb := by exact fun _ _ => rfl) : Ev X F (.Subscript ea eb pos) ρ c (.int b) (J a b) := fun hK L σ H o E Q q =>
  wE_of (pe_ix ix_list pe_w pe_w hs) (ev2 hK o E ha.l hb.l fun v w H' s o' r1 r2 => by
    rw [r2.vi]
    have e : v = .ref F.j := by
      cases r1 with
      | rep r => cases r; rfl
    rw [e]
    exact ⟨F.j, _, 1, .int b, rfl, rfl, SqL.of o'.jc, rfl, q _ H' s o' (.int b)⟩)
/-- optional parts of a slice -/
def wO (X : Cx) (e : Option Expr) : TO := match e with
  | none => tNoPart
  | some e => tPart (wE X e)
def EvO (X : Cx) (F : Fx) (e : Option Expr) (ρ : Rho) (c : HO) (i : Option Int) (c' : HO) : Prop := match e, i with
  | none, none => c' = c
  | some e, some i => Ev X F e ρ c (.int i) c'
  | _, _ => False
theorem po_w {e : Option Expr} : PO X e (wO X e) := by
  cases e with
  | none => exact po_none
  | some e => exact po_some pe_w
theorem eo_run {eo : Option Expr} {i : Option Int} (h : EvO X F eo ρ c i c1) (hK : X.K = F.K) {L : List Addr} {σ : L2.St} {H : Hp} (o : Ok F L c H) (E : Env F L ρ σ H) {Q : Option Int → Hp → Prop} (q : ∀ H', Stp F.j H H' → Ok F L c1 H' → Q i H') : wO X eo σ H Q := by
  cases eo with
  | none =>
    cases i with
    | none =>
      have e : c1 = c := h
      subst e
      exact q H (Stp.refl _ _) o
    | some i => exact False.elim h
  | some e =>
    cases i with
    | none => exact False.elim h
    | some i =>
      have h' : Ev X F e ρ c (.int i) c1 := h
      refine h' hK L σ H o E _ fun v H1 s1 o1 r1 => ?_
      cases r1
      exact ⟨i, rfl, q H1 s1 o1⟩
theorem ev_slT {lo hi : Option Expr} {a b : Option Int} {p2 : Pos} (h : EvL X F e ρ c (.tup ds) c1) (hl : EvO X F lo ρ c1 a c2) (hh : EvO X F hi ρ c2 b c3) : Ev X F (.Subscript e (.Slice lo hi none p2) pos) ρ c (.tup (cutA ds a b)) c3 := fun hK L σ H o E Q q => by
  refine wE_of (pe_slice sl_tupA pe_w po_w po_w) (h hK L σ H o E _ fun v H1 s1 o1 r1 => eo_run hl hK o1 (E.step o.jL s1) fun H2 s2 o2 => eo_run hh hK o2 ((E.step o.jL s1).step o1.jL s2) fun H3 s3 o3 => ?_)
  obtain ⟨p, xs, rfl, h1, h2⟩ := ((r1.stp o1.jL s2).stp o2.jL s3).tupAt
  have s := (s1.trans s2).trans s3
  rw [← hK] at h1
  refine ⟨p, xs, rfl, h1, fun hw => ?_, fun _ p' hp => ?_⟩
  · refine q _ H3 s o3 ?_
    have e2 : cutA ds a b = ds := by
      unfold cutA
      rw [← h2.length, hw.1, hw.2, h2.length, List.drop_zero, Nat.sub_zero, List.take_length]
    rw [e2]
    exact (show Rep _ _ _ _ _ from by
      have r3 := (r1.stp o1.jL s2).stp o2.jL s3
      cases r3 with
      | rep r => exact r)
  · exact q _ _ (s.trans (Stp.new hp)) (o3.new hp) (o3.newT hp (reps_cut h2 a b))
theorem ev_catT {l m : List D} (ha : Ev X F ea ρ c (.tup l) c1) (hb : Ev X F eb ρ c1 (.tup m) c2) (hz : l.length + m.length ≤ sizeLine) : Ev X F (.BinOp ea .Add eb pos) ρ c (.tup (l ++ m)) c2 := ev_op op_catA ha.l hb.l fun hK L c H v w o r1 r2 Q q => by
  cases r1 with
  | rep r1 =>
  cases r2 with
  | rep r2 =>
  obtain ⟨p, xs, rfl, h1, h2⟩ := r1.tupAt
  obtain ⟨p', ys, rfl, h3, h4⟩ := r2.tupAt
  rw [hK]
  refine ⟨p, p', xs, ys, rfl, rfl, h1, h3, by rw [h2.length, h4.length]; exact hz, fun z => ?_, fun _ z => ?_, fun _ _ p hp => ?_⟩
  · subst z
    have e : l = [] := List.eq_nil_of_length_eq_zero (by rw [← h2.length]; rfl)
    refine q _ H (Stp.refl _ _) o ?_
    rw [e, List.nil_append]
    exact r2
  · subst z
    have e : m = [] := List.eq_nil_of_length_eq_zero (by rw [← h4.length]; rfl)
    refine q _ H (Stp.refl _ _) o ?_
    rw [e, List.append_nil]
    exact r1
  · exact q _ _ (Stp.new hp) (o.new hp) (o.newT hp (h2.append h4))
theorem flat_rep {K : PySem.W.Frag} {j : Addr} {G : Hp} {vs : List V} {ds : List D} (r : Reps K j G vs ds) : ∀ n : Nat, Reps K j G (List.replicate n vs).flatten (List.replicate n ds).flatten
  | 0 => .nil
  | n + 1 => by
    rw [List.replicate_succ, List.replicate_succ, List.flatten_cons, List.flatten_cons]
    exact r.append (flat_rep r n)
theorem ev_repT {l : List D} {k : Int} (ha : Ev X F ea ρ c (.tup l) c1) (hb : Ev X F eb ρ c1 (.int k) c2) (h0 : l ≠ []) (h1 : 2 ≤ k) (h2 : k ≤ 1000) (h3 : l.length ≤ 1000) : Ev X F (.BinOp ea .Mult eb pos) ρ c (.tup (List.replicate k.toNat l).flatten) c2 := ev_op op_repT ha.l hb.l fun hK L c H v w o r1 r2 Q q => by
  obtain ⟨p, xs, rfl, h4, h5⟩ := r1.tupAt
  rw [r2.vi, hK]
  refine ⟨p, k, xs, rfl, rfl, h4, fun z => h0 ?_, h1, h2, by rw [h5.length]; exact h3, fun p hp => q _ _ (Stp.new hp) (o.new hp) (o.newT hp (flat_rep h5 _))⟩
  rw [z] at h5
  exact List.eq_nil_of_length_eq_zero (by rw [← h5.length]; rfl)
theorem ev_adds {x y : Str} (ha : Ev X F ea ρ c (.str x) c1) (hb : Ev X F eb ρ c1 (.str y) c2) (hz : x.length + y.length ≤ sizeLine) : Ev X F (.BinOp ea .Add eb pos) ρ c (.str (x ++ y)) c2 := ev_op op_add_str ha.l hb.l fun hK L c H v w o r1 r2 Q q => by
  rw [r1.vs, r2.vs]
  exact ⟨x, y, rfl, rfl, hz, q _ H (Stp.refl _ _) o (.str _)⟩
theorem ev_pow {i k : Int} (ha : Ev X F ea ρ c (.int i) c1) (hb : Ev X F eb ρ c1 (.int k) c2) (h : CPow i k) : Ev X F (.BinOp ea .Pow eb pos) ρ c (.int (i ^ k.toNat)) c2 := ev_op op_pow ha.l hb.l (op2_I h fun _ _ _ => .int _)
/-- one factor small -/
theorem ev_muls {i k : Int} (ha : Ev X F ea ρ c (.int i) c1) (hb : Ev X F eb ρ c1 (.int k) c2) (h : CMul i k) : Ev X F (.BinOp ea .Mult eb pos) ρ c (.int (i * k)) c2 := ev_op op_mul ha.l hb.l (op2_I h fun _ _ _ => .int _)
theorem ev_strI {i : Int} {p : Pos} (hg : Gl X "str") (hm : X.mg "str" = none) (h : Ev X F e ρ c (.int i) c1) (hz : i.natAbs.log2 < 1920) (he : starEach [e] X.env = (false, eval e X.env) :: starEach [] X.env := by kernel_rfl) : Ev X F (.Call (.Name "str" p) [e] [] pos) ρ c (.str (Str.ofString (toString i))) c1 :=
  ev_callT1 call_str_int hg hm (by decide +kernel) h.l (fun hK L c H v o r Q q => by
    rw [r.vi]
    exact ⟨i, rfl, hz, q _ H (Stp.refl _ _) o (.str _)⟩) (by decide) (by decide) he
theorem ev_max2 {i k : Int} {p : Pos} {e2 : Expr} (hc : X.calm = true) (hg : Gl X "max") (hm : X.mg "max" = none) (h : Ev X F e ρ c (.int i) c1) (h2 : Ev X F e2 ρ c1 (.int k) c2)
    (he : starEach [e, e2] X.env = (false, eval e X.env) :: starEach [e2] X.env := by kernel_rfl) (he2 : starEach [e2] X.env = (false, eval e2 X.env) :: starEach [] X.env := by kernel_rfl) (hpl : (backTo pos (starEach [e2] X.env)).any (·.1) = false := by kernel_rfl) :
    Ev X F (.Call (.Name "max" p) [e, e2] [] pos) ρ c (.int (if k > i then k else i)) c2 :=
  ev_callB (call_max2 hc) hg hm (by decide +kernel) (ea_cons h (ea_cons h2 ea_nil he2) he) (fun hK L c H vs o r Q q => by
    cases r with
    | cons r1 r2 =>
      cases r2 with
      | cons r2 r3 =>
        cases r3
        cases r1
        cases r2
        exact ⟨i, k, rfl, q _ H (Stp.refl _ _) o (.int _)⟩) (by decide) (by decide) he hpl
end

/-! ### statements -/

/-- what is walked stays: Z, a part of what is frozen -/
def Kept (F : Fx) (Z : Hp) (L : List Addr) (H : Hp) : Prop := ∀ a o, Z a = some o → (∀ ps, o ≠ .tbl ps) → off (L ++ F.S0) H a = some o
theorem Kept.stp {F : Fx} {Z : Hp} {L : List Addr} {H H' : Hp} (h : Kept F Z L H) (hj : F.j ∈ L ++ F.S0) (e : Stp F.j H H') : Kept F Z L H' := fun a o z t => e.off hj a o (h a o z t) t
def At (F : Fx) (Z : Hp) (ρ : Rho) (c : HO) (σ : L2.St) (H : Hp) : Prop := ∃ L, Ok F L c H ∧ Env F L ρ σ H ∧ Kept F Z L H
inductive Out where
  | nx (ρ : Rho) (c : HO)
  | ret (d : D) (c : HO)
  | brk (ρ : Rho) (c : HO)
  | ct (ρ : Rho) (c : HO)
  | exn (k : Str) (d : D) (c : HO)
/-- an error of the class named k that keeps d lies behind -/
def ExOk (F : Fx) (c : HO) (d : D) (dd : Addr) (H : Hp) : Prop := Ok F [] c H ∧ ∃ v, (∃ fs, H dd = some (.xd fs) ∧ fs.lookup ("what" : Str) = some v) ∧ Rep F.K F.j (off F.S0 H) v d
def Post (F : Fx) (Z : Hp) (W : WX) (C : Str → Addr) : Out → Ends → Prop
  | .nx ρ c, D => ∀ σ H, At F Z ρ c σ H → D.nx σ H
  | .ret d c, D => ∀ v H, Ok F [] c H → Rep F.K F.j (off F.S0 H) v d → D.rt v H
  | .brk ρ c, D => ∀ σ H, At F Z ρ c σ H → D.bk σ H
  | .ct ρ c, D => ∀ σ H, At F Z ρ c σ H → D.ct σ H
  | .exn k d c, _ => ∀ σ H dd, ExOk F c d dd H → W (.ref (C k)) (some dd) σ H
def wS (X : Cx) (st : Stmt) : TS := fun D σ H => ∀ (pins : List (Addr × Obj)) (s : Shared), Inv X pins σ H s → wpAny (model X.prog X.w) X.A (exec st X.env) (SP X pins D) X.xe s
theorem ps_w {X : Cx} {st : Stmt} : PS X st (wS X st) := ⟨fun pins s σ H D I h => h pins s I⟩
theorem wS_of {X : Cx} {st : Stmt} {t : TS} (h : PS X st t) {σ : L2.St} {H : Hp} {D : Ends} (q : t D σ H) : wS X st D σ H := fun pins s I => h.run pins s σ H D I q
def wSs (X : Cx) (st : List Stmt) : TS := fun D σ H => ∀ (pins : List (Addr × Obj)) (s : Shared), Inv X pins σ H s → wpAny (model X.prog X.w) X.A (execs st X.env) (SP X pins D) X.xe s
theorem pss_w {X : Cx} {st : List Stmt} : PSs X st (wSs X st) := ⟨fun pins s σ H D I h => h pins s I⟩
theorem wSs_of {X : Cx} {st : List Stmt} {t : TS} (h : PSs X st t) {σ : L2.St} {H : Hp} {D : Ends} (q : t D σ H) : wSs X st D σ H := fun pins s I => h.run pins s σ H D I q
/-- where the body stands: the context, what is fixed, the wish for errors, the classes -/
structure Wh where
  X : Cx
  F : Fx
  W : WX
  C : Str → Addr
structure Wh.Ok (w : Wh) : Prop where
  k : w.X.K = w.F.K
  tk : L2N.Takes w.X w.W
def Sx (w : Wh) (st : Stmt) (ρ : Rho) (c : HO) (o : Out) : Prop := w.Ok → ∀ Z σ H, At w.F Z ρ c σ H → ∀ D : Ends, Post w.F Z w.W w.C o D → wS w.X st D σ H
def Sxs (w : Wh) (st : List Stmt) (ρ : Rho) (c : HO) (o : Out) : Prop := w.Ok → ∀ Z σ H, At w.F Z ρ c σ H → ∀ D : Ends, Post w.F Z w.W w.C o D → wSs w.X st D σ H
def Out.stops : Out → Bool
  | .nx _ _ => false
  | _ => true
section
variable {w : Wh} {ρ ρ1 : Rho} {c c1 c2 : HO} {d : D} {st : Stmt} {rest sts : List Stmt} {o : Out} {e : Expr} {pos : Pos}
theorem Ok.drop {F : Fx} {L : List Addr} {c : HO} {H : Hp} (h : Ok F L c H) : Ok F [] c H := ⟨h.jS, h.s0, h.jc, fun a ha => h.tr a (List.mem_append_right _ (by simpa using ha)), h.tb, h.st, fun a ha => absurd ha (by simp), List.nodup_nil⟩
theorem sxs_nil : Sxs w [] ρ c (.nx ρ c) := fun hw Z σ H a D q => wSs_of pss_nil (q σ H a)
theorem sxs_cons (h : Sx w st ρ c (.nx ρ1 c1)) (t : Sxs w rest ρ1 c1 o) : Sxs w (st :: rest) ρ c o := fun hw Z σ H a D q =>
  wSs_of (pss_cons ps_w pss_w) (h hw Z σ H a _ fun σ' H' a' => t hw Z σ' H' a' D q)
theorem sxs_stop (h : Sx w st ρ c o) (ho : o.stops = true) : Sxs w (st :: rest) ρ c o := fun hw Z σ H a D q =>
  wSs_of (pss_cons ps_w pss_w) (h hw Z σ H a _ (by
    cases o with
    | nx ρ c => cases ho
    | ret d c => exact q
    | brk ρ c => exact q
    | ct ρ c => exact q
    | exn k d c => exact q))
theorem sx_ret (h : Ev w.X w.F e ρ c d c1) : Sx w (.Return (some e) pos) ρ c (.ret d c1) := fun hw Z σ H ⟨L, o, E, _⟩ D q =>
  wS_of (ps_ret pe_w) (h hw.k L σ H o E _ fun v H1 s1 o1 r1 => q v H1 o1.drop (r1.sub fun a ha => List.mem_append_right _ ha))
theorem sx_if {b : Bool} {a1 a0 : List Stmt} (h : EvT w.X w.F e ρ c b c1) (h1 : b = true → Sxs w a1 ρ c1 o) (h0 : b = false → Sxs w a0 ρ c1 o) : Sx w (.If e a1 a0 pos) ρ c o := fun hw Z σ H ⟨L, oo, E, z⟩ D q =>
  wS_of (ps_if pt_w pss_w pss_w) (h hw.k L σ H oo E _ fun H1 s1 o1 => by
    cases b with
    | true => exact iteT (h1 rfl hw Z σ H1 ⟨L, o1, E.step oo.jL s1, z.stp oo.jL s1⟩ D q)
    | false => exact iteF (h0 rfl hw Z σ H1 ⟨L, o1, E.step oo.jL s1, z.stp oo.jL s1⟩ D q))
theorem sx_expr (h : Ev w.X w.F e ρ c d c1) (hs : swapsWith e none pos.line w.X.env = pure false := by kernel_rfl) : Sx w (.Expr e pos) ρ c (.nx ρ c1) := fun hw Z σ H ⟨L, oo, E, z⟩ D q =>
  wS_of (ps_expr pe_w hs) (h hw.k L σ H oo E _ fun v H1 s1 o1 r1 => q σ H1 ⟨L, o1, E.step oo.jL s1, z.stp oo.jL s1⟩)
theorem sx_pass : Sx w (.Pass pos) ρ c (.nx ρ c) := fun hw Z σ H a D q => wS_of ps_pass (q σ H a)
theorem sx_break : Sx w (.Break pos) ρ c (.brk ρ c) := fun hw Z σ H a D q => wS_of ps_break (q σ H a)
/-- a slot is set to data -/
theorem Env.put {F : Fx} {L : List Addr} {σ : L2.St} {H : Hp} {i : Nat} {v : V} (E : Env F L ρ σ H) (r : Rep F.K F.j (off (L ++ F.S0) H) v d) (hi : i < ρ.length) : Env F L (ρ.set i (some (.fr d))) (σ.set i (some v)) H where
  len := by rw [List.length_set, List.length_set]; exact E.len
  fr := fun k d' z => by
    by_cases hk : k = i
    · subst hk
      rw [List.getElem?_set_self hi] at z
      cases z
      exact ⟨v, List.getElem?_set_self (by rw [E.len]; exact hi), r⟩
    · rw [List.getElem?_set_ne (Ne.symm hk)] at z ⊢
      exact E.fr k d' z
  ow := fun k ds z => by
    by_cases hk : k = i
    · subst hk
      rw [List.getElem?_set_self hi] at z
      cases z
    · rw [List.getElem?_set_ne (Ne.symm hk)] at z ⊢
      exact E.ow k ds z
  one := fun a b ds es p z1 z2 h1 h2 => by
    have ha : a ≠ i := fun q => by
      subst q
      rw [List.getElem?_set_self hi] at z1
      cases z1
    have hb : b ≠ i := fun q => by
      subst q
      rw [List.getElem?_set_self hi] at z2
      cases z2
    rw [List.getElem?_set_ne (Ne.symm ha)] at z1 h1
    rw [List.getElem?_set_ne (Ne.symm hb)] at z2 h2
    exact E.one a b ds es p z1 z2 h1 h2
theorem sx_set (i : Nat) {x : Str} {px : Pos} (h : Ev w.X w.F e ρ c d c1) (hN : w.X.N.Nodup) (hi : w.X.N[i]? = some x := by kernel_rfl) (hx : L2.Loc w.X.env.scope x := by first | exact Or.inl rfl | exact Or.inr rfl) (hl : i < ρ.length := by exact Nat.le_of_ble_eq_true rfl)
    (hf : w.X.fn x = true ∨ w.X.env.scope.names.lookup x = some .local := by first | exact .inl rfl | exact .inr rfl)
    (s1 : swapsWithSole [(.Name x px)] e pos.line w.X.env = pure false := by kernel_rfl) (s2 : swappedStores [(.Name x px)] e w.X.env = pure none := by kernel_rfl) (s3 : List.map (fun x => x.snd) (assignEach [(.Name x px)] w.X.env) = [assign (.Name x px) w.X.env] := by kernel_rfl) :
    Sx w (.Assign [.Name x px] e pos) ρ c (.nx (ρ.set i (some (.fr d))) c1) := fun hw Z σ H ⟨L, oo, E, z⟩ D q =>
  wS_of (ps_asg pe_w (pg_name hN hi hx hf) s1 s2 s3) (h hw.k L σ H oo E _ fun v H1 s1 o1 r1 => q _ H1 ⟨L, o1, (E.step oo.jL s1).put r1 hl, z.stp oo.jL s1⟩)
end
end Fh
end
section
set_option Elab.async false
set_option linter.all false
set_option maxRecDepth 100000
set_option maxHeartbeats 2000000
/-! What a def is worth; calls. -/
namespace Fh
open PySem PySem.Spec PyProof.Rows L2
theorem passNL {X : Cx} : Passes (L2N.CX X.prog X.w) X (fun _ _ _ => False) := fun _ _ _ _ _ _ _ h => by
  obtain ⟨_, _, _, _, _, _, _, _, _, _, _, _, z⟩ := h
  exact z.elim
theorem takesN0 {X : Cx} : L2N.Takes X (fun _ _ _ _ => False) := fun _ _ x => by
  obtain ⟨_, _, _, _, _, _, _, _, _, _, _, _, _, _, _, _, z⟩ := x
  exact z.elim
inductive Res where
  | ok (d : D)
  | ex (k : Str) (d : D)
/-- a def as a function of data and the jar -/
abbrev Fn := List D → HO → Res → HO → Prop
abbrev fxOf (K : PySem.W.Frag) (T : List (Addr × Str)) (H : Hp) (S : List Addr) (j : Addr) : Fx := ⟨K, T, H, S, j⟩
def EndOk (F : Fx) (C : Str → Addr) (Q : VK) (E : XK) (c' : HO) : Res → Prop
  | .ok d => ∀ v H', Ok F [] c' H' → Rep F.K F.j (off F.S0 H') v d → Q v H'
  | .ex k d => ∀ dd H', ExOk F c' d dd H' → E (.ref (C k)) (some dd) H'
def spF (K : PySem.W.Frag) (T : List (Addr × Str)) (C : Str → Addr) (f : Fn) : Sp := fun vs H Q E => ∃ (S : List Addr) (j : Addr) (c : HO) (ds : List D) (r : Res) (c' : HO),
  Ok (fxOf K T H S j) [] c H ∧ Reps K j (off S H) vs ds ∧ f ds c r c' ∧ EndOk (fxOf K T H S j) C Q E c' r
/-- the slots at the start -/
def rho0 (N : List Str) (ds : List D) : Rho := ds.map (fun d => some (.fr d)) ++ List.replicate (N.length - ds.length) none
theorem env0 {F : Fx} {N : List Str} {vs : List V} {ds : List D} {H : Hp} (r : Reps F.K F.j (off F.S0 H) vs ds) : Env F [] (rho0 N ds) (L2.start N vs) H where
  len := by
    unfold rho0 L2.start
    rw [List.length_append, List.length_append, List.length_map, List.length_map, List.length_replicate, List.length_replicate, r.length]
  fr := fun i d z => by
    unfold rho0 at z
    unfold L2.start
    by_cases hi : i < ds.length
    · rw [List.getElem?_append_left (by simpa using hi), List.getElem?_map] at z
      cases e : ds[i]? with
      | none => rw [e] at z; cases z
      | some d' =>
        rw [e] at z
        cases z
        obtain ⟨v, h1, h2⟩ := r.at e
        exact ⟨v, by rw [List.getElem?_append_left (by rw [List.length_map, r.length]; exact hi), List.getElem?_map, h1]; rfl, h2⟩
    · rw [List.getElem?_append_right (by simpa using hi), List.getElem?_replicate] at z
      split at z <;> cases z
  ow := fun i ds' z => by
    unfold rho0 at z
    by_cases hi : i < ds.length
    · rw [List.getElem?_append_left (by simpa using hi), List.getElem?_map] at z
      cases e : ds[i]? with
      | none => rw [e] at z; cases z
      | some d' => rw [e] at z; cases z
    · rw [List.getElem?_append_right (by simpa using hi), List.getElem?_replicate] at z
      split at z <;> cases z
  one := fun i k ds' es p z _ _ _ => by
    unfold rho0 at z
    by_cases hi : i < ds.length
    · rw [List.getElem?_append_left (by simpa using hi), List.getElem?_map] at z
      cases e : ds[i]? with
      | none => rw [e] at z; cases z
      | some d' => rw [e] at z; cases z
    · rw [List.getElem?_append_right (by simpa using hi), List.getElem?_replicate] at z
      split at z <;> cases z
/-- an outcome is an end -/
inductive Done : Out → Res → HO → Prop
  | ret (d : D) (c : HO) : Done (.ret d c) (.ok d) c
  | nx (ρ : Rho) (c : HO) : Done (.nx ρ c) (.ok .non) c
  | exn (k : Str) (d : D) (c : HO) : Done (.exn k d c) (.ex k d) c
section
variable {P : Program} {w : World} {K : PySem.W.Frag} {mg : Str → Option Value} {base : Heap} {T : List (Addr × Str)} {C : Str → Addr} {x qual : Str} {params : Arguments} {body : List Stmt} {scope : Scope} {N ps : List Str} {f : Addr} {fd : FuncData} {k : Nat} {sem : Fn}
end
end Fh
namespace Fh
open PySem PySem.Spec PyProof.Rows L2
section
variable {P : Program} {w : World} {K : PySem.W.Frag} {mg : Str → Option Value} {base : Heap} {T : List (Addr × Str)} {C : Str → Addr} {x qual : Str} {params : Arguments} {body : List Stmt} {scope : Scope} {N ps : List Str} {f : Addr} {fd : FuncData} {k : Nat} {sem : Fn}
/-- THE RULE for a def -/
theorem fn_ok (FD : FunD K x qual params body scope [] [] f fd) (S : FnScope N ps scope) (hl : ∀ ds c r c', sem ds c r c' → ds.length = ps.length)
    (hb : ∀ (cdv : Value) (A : Around) (outer : List PySem.Env) (s : Shared) (H : Hp) (E : XK), Room k (A.deeper (envOfC qual scope s.heap.objs.size f cdv)) → ∀ (Sa : List Addr) (j : Addr) (ds : List D) (c : HO) (r : Res) (c' : HO), sem ds c r c' →
      ∃ o, Sxs ⟨cxOf (L2N.CX P w) P w K mg base N qual scope f cdv A outer s H E, fxOf K T H Sa j, fun cls d _ H => E cls d H, C⟩ body (rho0 N ds) c o ∧ Done o r c') : FnOk P w K mg base (L2N.CX P w) (k + 1) f fd ps (spF K T C sem) := by
  refine FD.ok S (fun vs H Q E h => ?_) (fun cdv A outer s H vs Q E hr h => ?_)
  · obtain ⟨Sa, j, c, ds, r, c', _, h2, h3, _⟩ := h
    rw [h2.length]
    exact hl _ _ _ _ h3
  · obtain ⟨Sa, j, c, ds, r, c', h1, h2, h3, h4⟩ := h
    obtain ⟨o, ho, hd⟩ := hb cdv A outer s H E hr Sa j ds c r c' h3
    refine ⟨_, pss_w, ho ⟨rfl, L2N.takes_of rfl rfl rfl rfl⟩ (fun _ => none) (L2.start N vs) H ⟨[], h1, env0 h2, fun a o z => by cases z⟩ _ ?_⟩
    cases hd with
    | ret d c => exact fun v H' o' r' => h4 v H' o' r'
    | nx ρ c => exact fun σ H' ⟨L, o', _, _⟩ => h4 .non H' o'.drop .non
    | exn k d c => exact fun σ H' dd e => h4 dd H' e
/-- how it takes its arguments -/
structure BindsX (K : PySem.W.Frag) (fd : FuncData) (ps : List Str) : Prop where
  b : Binds K fd ps []
  kw : ∀ x, ps = [x] → ∀ (s : Shared) (u : Value), K.In s.heap → BindsTo s fd ⟨[], [(x, u)]⟩ [(x, u)]
/-- a def that is known: where it stands, and what it is worth -/
structure Kn (P : Program) (w : World) (K : PySem.W.Frag) (mg : Str → Option Value) (base : Heap) (T : List (Addr × Str)) (C : Str → Addr) (x : Str) (ps : List Str) (k : Nat) (sem : Fn) : Prop where
  ex : ∃ f fd, mg x = some (.ref f) ∧ FnOk P w K mg base (L2N.CX P w) k f fd ps (spF K T C sem) ∧ PySem.W.keepIn K (.ref f) = true ∧ BindsX K fd ps
end
section
variable {X : Cx} {F : Fx} {C : Str → Addr} {W : WX} {ρ : Rho} {c c1 c2 c3 : HO} {d d1 d2 : D} {ds : List D} {e ea eb : Expr} {es : List Expr} {pos p : Pos} {x : Str} {ps : List Str} {k m : Nat} {sem : Fn}
/-- what a callee asks of the heap -/
theorem Ok.call {L : List Addr} {H : Hp} (o : Ok F L c H) : Ok (fxOf F.K F.T H (L ++ F.S0) F.j) [] c H := ⟨o.jL, (fun a ha z => by obtain ⟨u, e, _⟩ := o.tr a ha; have z : H a = none := z; rw [e] at z; cases z), o.jc, fun a ha => o.tr a (by simpa using ha), o.tb, Stp.refl _ _, fun a ha => absurd ha (by simp), List.nodup_nil⟩
theorem Ok.back {L : List Addr} {H H' : Hp} (o : Ok F L c H) (h : Ok (fxOf F.K F.T H (L ++ F.S0) F.j) [] c1 H') : Ok F L c1 H' := o.step h.st h.jc h.ct h.tb
theorem ev_call (G : Kn X.prog X.w X.K X.mg X.base F.T C x ps k sem) (hr : Room m X.A) (hk : k ≤ m) (hg : Gl X x) (h : EvA X F (e :: es) ρ c ds c1) (hs : sem ds c1 (.ok d) c2) (hd : (x == ("__debug__" : Str)) = false := by kernel_rfl)
    (he : starEach (e :: es) X.env = (false, eval e X.env) :: starEach es X.env := by kernel_rfl) (hpl : (backTo pos (starEach es X.env)).any (·.1) = false := by kernel_rfl) : Ev X F (.Call (.Name x p) (e :: es) [] pos) ρ c d c2 := fun hK L σ H o E Q q => by
  obtain ⟨f, fd, h1, h2, h3, h4⟩ := G.ex
  refine wE_of (pe_call (E := fun _ _ _ => False) h2 (hr.mono hk) hg h1 h3 h4.b .nil passNL pa_w hd he hpl) ?_
  refine h hK L σ H o E _ fun vs H1 s1 o1 r1 => ?_
  show spF X.K F.T C sem (vs ++ []) H1 Q _
  rw [List.append_nil, hK]
  exact ⟨L ++ F.S0, F.j, c1, ds, _, c2, o1.call, r1, hs, fun v H2 o2 r2 => q v H2 (s1.trans o2.st) (o1.back o2) r2⟩
/-- no argument -/
theorem ev_call0 (G : Kn X.prog X.w X.K X.mg X.base F.T C x ps k sem) (hr : Room m X.A) (hk : k ≤ m) (hg : Gl X x) (hs : sem [] c (.ok d) c2) (hd : (x == ("__debug__" : Str)) = false := by kernel_rfl) : Ev X F (.Call (.Name x p) [] [] pos) ρ c d c2 := fun hK L σ H o E Q q => by
  obtain ⟨f, fd, h1, h2, h3, h4⟩ := G.ex
  refine wE_of (pe_call0 (E := fun _ _ _ => False) h2 (hr.mono hk) hg h1 h3 h4.b .nil passNL hd) ?_
  show spF X.K F.T C sem ([] ++ []) H Q _
  rw [List.append_nil, hK]
  exact ⟨L ++ F.S0, F.j, c, [], _, c2, o.call, .nil, hs, fun v H2 o2 r2 => q v H2 o2.st (o.back o2) r2⟩
/-- an expression that raises -/
def EvX (w : Wh) (e : Expr) (ρ : Rho) (c : HO) (k : Str) (d : D) (c' : HO) : Prop := w.Ok → ∀ (L : List Addr) (σ : L2.St) (H : Hp), Fh.Ok w.F L c H → Env w.F L ρ σ H → (∀ σ H dd, ExOk w.F c' d dd H → w.W (.ref (w.C k)) (some dd) σ H) → ∀ Q : VK, wE w.X e σ H Q
theorem evx_call {w : Wh} {kk : Str} (G : Kn w.X.prog w.X.w w.X.K w.X.mg w.X.base w.F.T w.C x ps k sem) (hr : Room m w.X.A) (hk : k ≤ m) (hg : Gl w.X x) (h : EvA w.X w.F (e :: es) ρ c ds c1) (hs : sem ds c1 (.ex kk d) c2) (hd : (x == ("__debug__" : Str)) = false := by kernel_rfl)
    (he : starEach (e :: es) w.X.env = (false, eval e w.X.env) :: starEach es w.X.env := by kernel_rfl) (hpl : (backTo pos (starEach es w.X.env)).any (·.1) = false := by kernel_rfl) : EvX w (.Call (.Name x p) (e :: es) [] pos) ρ c kk d c2 := fun hw L σ H o E q Q => by
  obtain ⟨f, fd, h1, h2, h3, h4⟩ := G.ex
  refine wE_of (pe_callS (E := WE w.W) h2 (hr.mono hk) hg h1 h3 h4.b (fun σ => L2N.passAt hw.tk σ) pa_w hd he hpl) ?_
  refine h hw.k L σ H o E _ fun vs H1 s1 o1 r1 => ?_
  show spF w.X.K w.F.T w.C sem vs H1 Q _
  rw [hw.k]
  refine ⟨L ++ w.F.S0, w.F.j, c1, ds, _, c2, o1.call, r1, hs, fun dd H2 x2 => ?_⟩
  obtain ⟨o2, v, h5, h6⟩ := x2
  exact q σ H2 dd ⟨(o1.back o2).drop, v, h5, h6.sub fun a ha => List.mem_append_right _ ha⟩
theorem sx_exprX {w : Wh} {kk : Str} (h : EvX w e ρ c kk d c1) (hs : swapsWith e none pos.line w.X.env = pure false := by kernel_rfl) : Sx w (.Expr e pos) ρ c (.exn kk d c1) := fun hw Z σ H ⟨L, oo, E, z⟩ D q =>
  wS_of (ps_expr pe_w hs) (h hw L σ H oo E q _)
theorem sx_retX {w : Wh} {kk : Str} (h : EvX w e ρ c kk d c1) : Sx w (.Return (some e) pos) ρ c (.exn kk d c1) := fun hw Z σ H ⟨L, oo, E, z⟩ D q =>
  wS_of (ps_ret pe_w) (h hw L σ H oo E q _)
/-- x(k = e) -/
theorem wE_kw {W : WX} {r : Res} {kx : Str} {kpos : Pos} (tk : L2N.Takes X W) (G : Kn X.prog X.w X.K X.mg X.base F.T C x [kx] k sem) (hr : Room m X.A) (hk : k ≤ m) (hg : Gl X x) (h : Ev X F e ρ c d1 c1) (hs : sem [d1] c1 r c2) (hd : (x == ("__debug__" : Str)) = false)
    (hK : X.K = F.K) {L : List Addr} {σ : L2.St} {H : Hp} {Q : VK} (o : Ok F L c H) (E : Env F L ρ σ H) (q : ∀ d, r = .ok d → Aft F L H c2 d Q) (qx : ∀ kk d, r = .ex kk d → ∀ dd H', ExOk F c2 d dd H' → W (.ref (C kk)) (some dd) σ H') :
    wE X (.Call (.Name x p) [] [⟨some kx, e, kpos⟩] pos) σ H Q := fun pins s I => by
  obtain ⟨f, fd, h1, h2, h3, h4⟩ := G.ex
  refine wpAny_Call_Name_kw (ld_glob I hg h1 ?_ hd)
  have rd := h hK L σ H o E (fun v H1 => Stp F.j H H1 ∧ Ok F L c1 H1 ∧ Rep F.K F.j (off (L ++ F.S0) H1) v d1) fun v H1 a b r => ⟨a, b, r⟩
  refine PySem.W.callWith_KW0 (h₀ := X.base) I.ok.mod.kin h3 rfl (thn ((pk_cons (nm := some kx) (kpos := kpos) pe_w pk_nil).run pos pins s σ H (fun zs H1 => ∃ v, zs = [v] ∧ Stp F.j H H1 ∧ Ok F L c1 H1 ∧ Rep F.K F.j (off (L ++ F.S0) H1) v d1) I (fun pins' s' I' => ?_)) fun ws s2 ⟨zs, H2, I2, rz, v, ez, s1, o1, r1⟩ => ⟨I2.kIn, ?_⟩) rfl
  · exact wpAny_mono (rd pins' s' I') (fun u s'' ⟨v, H', J, rv, q'⟩ => ⟨v, H', J, rv, v, rfl, q'⟩) fun _ _ z => z
  · subst ez
    obtain ⟨u, ru, ews⟩ : ∃ u, RelV v u ∧ ws = [u] := by
      cases rz with
      | cons a b =>
        cases b
        exact ⟨_, a, rfl⟩
    subst ews
    show wpAny _ _ (call (.ref f) [] [(kx, u)]) _ _ s2
    refine wpAny_call (codeAny_mono (h2.run X.A X.stack s2 H2 ⟨[], [(kx, u)]⟩ [u] [v] Q (WE W σ) (hr.mono hk) I2.env0 (h4.kw kx rfl s2 u I2.kIn) (.cons ru .nil) ?_) fun rr s' z => ?_)
    · show spF X.K F.T C sem [v] H2 Q _
      rw [hK]
      refine ⟨L ++ F.S0, F.j, c1, [d1], r, c2, o1.call, .cons r1 .nil, hs, ?_⟩
      cases r with
      | ok d => exact fun v H3 o3 r3 => q d rfl v H3 (s1.trans o3.st) (o1.back o3) r3
      | ex kk d => exact fun dd H3 ⟨o3, v, h5, h6⟩ => qx kk d rfl dd H3 ⟨(o1.back o3).drop, v, h5, h6.sub fun a ha => List.mem_append_right _ ha⟩
    · cases rr with
      | error er => exact L2N.passAt tk σ pins H2 s2 er s' I2 z
      | ok fl =>
        cases fl with
        | ret u => exact I2.after z
        | next => exact z.elim
        | brk => exact z.elim
        | cont => exact z.elim
end
end Fh
end
section
set_option Elab.async false
set_option linter.all false
set_option maxRecDepth 100000
set_option maxHeartbeats 2000000
/-! Loops. -/
namespace Fh
open PySem PySem.Spec PyProof.Rows L2
/-- a target takes a thing -/
def BindD (F : Fx) (g : TG) (d : D) (ρ ρ' : Rho) : Prop := ∀ (L : List Addr) (c : HO) (σ : L2.St) (H : Hp) (v : V), Ok F L c H → Env F L ρ σ H → Rep F.K F.j (off (L ++ F.S0) H) v d → ∀ Q : L2.St → Hp → Prop, (∀ σ', Env F L ρ' σ' H → Q σ' H) → g v σ H Q
theorem bind_name {F : Fx} {i : Nat} {d : D} {ρ : Rho} (hi : i < ρ.length := by exact Nat.le_of_ble_eq_true rfl) : BindD F (gName i) d ρ (ρ.set i (some (.fr d))) := fun L c σ H v o E r Q q => q _ (E.put r hi)
/-- several targets -/
def BindDs (F : Fx) (g : TGs) (ds : List D) (ρ ρ' : Rho) : Prop := ∀ (L : List Addr) (c : HO) (σ : L2.St) (H : Hp) (vs : List V), Ok F L c H → Env F L ρ σ H → Reps F.K F.j (off (L ++ F.S0) H) vs ds → ∀ Q : L2.St → Hp → Prop, (∀ σ', Env F L ρ' σ' H → Q σ' H) → g vs σ H Q
theorem binds_nil {F : Fx} {ρ : Rho} : BindDs F gNil [] ρ ρ := fun L c σ H vs o E r Q q => by
  cases r
  exact ⟨rfl, q σ E⟩
theorem binds_cons {F : Fx} {g : TG} {u : TGs} {d : D} {ds : List D} {ρ ρ1 ρ2 : Rho} (h : BindD F g d ρ ρ1) (t : BindDs F u ds ρ1 ρ2) : BindDs F (gCons g u) (d :: ds) ρ ρ2 := fun L c σ H vs o E r Q q => by
  cases r with
  | cons r1 r2 => exact ⟨_, _, rfl, h L c σ H _ o E r1 _ fun σ1 E1 => t L c σ1 H _ o E1 r2 Q q⟩
theorem bind_tup {F : Fx} {K : PySem.W.Frag} {n : Nat} {u : TGs} {ds : List D} {ρ ρ' : Rho} (hK : K = F.K) (hn : ds.length = n) (h : BindDs F u ds ρ ρ') : BindD F (gTup K n u) (.tup ds) ρ ρ' := fun L c σ H v o E r Q q => by
  obtain ⟨p, xs, e, h1, h2⟩ := r.tupAt
  rw [hK]
  exact ⟨p, xs, e, h1, by rw [h2.length]; exact hn, h L c σ H xs o E h2 Q q⟩
/-- what a loop over known things does -/
inductive ForRel (w : Wh) (body : List Stmt) (g : TG) : List D → Rho → HO → Out → Prop
  | done (ρ : Rho) (c : HO) : ForRel w body g [] ρ c (.nx ρ c)
  | nx {d : D} {ds : List D} {ρ ρ1 ρ2 : Rho} {c c2 : HO} {o : Out} (hb : BindD w.F g d ρ ρ1) (h : Sxs w body ρ1 c (.nx ρ2 c2)) (t : ForRel w body g ds ρ2 c2 o) : ForRel w body g (d :: ds) ρ c o
  | ct {d : D} {ds : List D} {ρ ρ1 ρ2 : Rho} {c c2 : HO} {o : Out} (hb : BindD w.F g d ρ ρ1) (h : Sxs w body ρ1 c (.ct ρ2 c2)) (t : ForRel w body g ds ρ2 c2 o) : ForRel w body g (d :: ds) ρ c o
  | brk {d : D} {ds : List D} {ρ ρ1 ρ2 : Rho} {c c2 : HO} (hb : BindD w.F g d ρ ρ1) (h : Sxs w body ρ1 c (.brk ρ2 c2)) : ForRel w body g (d :: ds) ρ c (.nx ρ2 c2)
  | ret {d : D} {ds : List D} {ρ ρ1 : Rho} {c c2 : HO} {r : D} (hb : BindD w.F g d ρ ρ1) (h : Sxs w body ρ1 c (.ret r c2)) : ForRel w body g (d :: ds) ρ c (.ret r c2)
  | exn {d : D} {ds : List D} {ρ ρ1 : Rho} {c c2 : HO} {k : Str} {r : D} (hb : BindD w.F g d ρ ρ1) (h : Sxs w body ρ1 c (.exn k r c2)) : ForRel w body g (d :: ds) ρ c (.exn k r c2)
/-- the state at a turn: what is left to walk -/
def TurnAt (w : Wh) (body : List Stmt) (g : TG) (Z : Hp) (o : Out) (ds : List D) (σ : L2.St) (H : Hp) : Prop := ∃ ρ c, At w.F Z ρ c σ H ∧ ForRel w body g ds ρ c o
section
variable {w : Wh} {body : List Stmt} {g : TG} {Z Z' : Hp} {o : Out} {ds : List D} {σ : L2.St} {H : Hp} {D' : Ends} {d : D}
theorem At.weak {ρ : Rho} {c : HO} (hz : ∀ a u, Z a = some u → (∀ ps, u ≠ .tbl ps) → Z' a = some u) (h : At w.F Z' ρ c σ H) : At w.F Z ρ c σ H := by
  obtain ⟨L, o, E, k⟩ := h
  exact ⟨L, o, E, fun a u z t => k a u (hz a u z t) t⟩
theorem Post.weak (hz : ∀ a u, Z a = some u → (∀ ps, u ≠ .tbl ps) → Z' a = some u) (h : Post w.F Z w.W w.C o D') : Post w.F Z' w.W w.C o D' := by
  cases o with
  | nx ρ c => exact fun σ H a => h σ H (a.weak hz)
  | ret d c => exact h
  | brk ρ c => exact fun σ H a => h σ H (a.weak hz)
  | ct ρ c => exact fun σ H a => h σ H (a.weak hz)
  | exn k d c => exact h
/-- one turn -/
theorem turn_run0 (hw : w.Ok) (q : Post w.F Z w.W w.C o D') {v : V} {ρ : Rho} {c : HO} {L : List Addr} (oo : Ok w.F L c H) (E : Env w.F L ρ σ H) (k : Kept w.F Z L H) (r : ForRel w body g (d :: ds) ρ c o) (hv : Rep w.F.K w.F.j (off (L ++ w.F.S0) H) v d) {Nx Ct : L2.St → Hp → Prop}
    (hn : ∀ σ' H', TurnAt w body g Z o ds σ' H' → Nx σ' H') (hc : ∀ σ' H', TurnAt w body g Z o ds σ' H' → Ct σ' H') : g v σ H fun σ2 H2 => wSs w.X body { nx := Nx, rt := D'.rt, bk := D'.nx, ct := Ct } σ2 H2 := by
  cases r with
  | nx hb h t => exact hb L c σ H v oo E hv _ fun σ' E' => h hw Z σ' H ⟨L, oo, E', k⟩ _ fun σ2 H2 a => hn σ2 H2 ⟨_, _, a, t⟩
  | ct hb h t => exact hb L c σ H v oo E hv _ fun σ' E' => h hw Z σ' H ⟨L, oo, E', k⟩ _ fun σ2 H2 a => hc σ2 H2 ⟨_, _, a, t⟩
  | brk hb h => exact hb L c σ H v oo E hv _ fun σ' E' => h hw Z σ' H ⟨L, oo, E', k⟩ _ fun σ2 H2 a => q σ2 H2 a
  | ret hb h => exact hb L c σ H v oo E hv _ fun σ' E' => h hw Z σ' H ⟨L, oo, E', k⟩ _ q
  | exn hb h => exact hb L c σ H v oo E hv _ fun σ' E' => h hw Z σ' H ⟨L, oo, E', k⟩ _ q
theorem turn_run (hw : w.Ok) (q : Post w.F Z w.W w.C o D') {v : V} (h : TurnAt w body g Z o (d :: ds) σ H) (hv : ∀ L c, Ok w.F L c H → Kept w.F Z L H → Rep w.F.K w.F.j (off (L ++ w.F.S0) H) v d) {Nx Ct : L2.St → Hp → Prop}
    (hn : ∀ σ' H', TurnAt w body g Z o ds σ' H' → Nx σ' H') (hc : ∀ σ' H', TurnAt w body g Z o ds σ' H' → Ct σ' H') : g v σ H fun σ2 H2 => wSs w.X body { nx := Nx, rt := D'.rt, bk := D'.nx, ct := Ct } σ2 H2 := by
  obtain ⟨ρ, c, ⟨L, oo, E, k⟩, r⟩ := h
  exact turn_run0 hw q oo E k r (hv L c oo k) hn hc
theorem turn_end (q : Post w.F Z w.W w.C o D') (h : TurnAt w body g Z o [] σ H) : D'.nx σ H := by
  obtain ⟨ρ, c, a, r⟩ := h
  cases r
  exact q σ H a
end
section
variable {w : Wh} {ρ : Rho} {c c1 : HO} {d : D} {ds : List D} {body : List Stmt} {g : TG} {o : Out} {tg iter a b c' : Expr} {pos p : Pos}
/-- what is frozen at the walk's start -/
theorem kept0 {F : Fx} {L : List Addr} {H : Hp} : Kept F (off (L ++ F.S0) H) L H := fun a o z _ => z
theorem drop_at {α : Type} {l : List α} {i : Nat} {x : α} (h : l[i]? = some x) : l.drop i = x :: l.drop (i + 1) := by
  obtain ⟨hi, e⟩ := List.getElem?_eq_some_iff.mp h
  rw [← e]
  exact List.drop_eq_getElem_cons hi
theorem sx_for_lst (r : ForRel w body g ds ρ c1 o) (hg : PG w.X tg g) (h : Ev w.X w.F iter ρ c (.lst ds) c1) (hc : w.X.calm = true := by kernel_rfl) (hp : PassesOwn (model w.X.prog w.X.w) w.X.A w.X.env w.X.xe := by exact PassesOwn.never) (hs : ∀ x, foldedSetIterable iter w.X.env x = pure x := by intro _; kernel_rfl) :
    Sx w (.For tg iter body [] pos) ρ c o := fun hw Z σ H ⟨L, oo, E, z⟩ D' q => by
  refine wS_of (ps_for hp hc (pi_list pe_w) hg pss_w hs) ?_
  refine h hw.k L σ H oo E _ fun v H1 s1 o1 r1 => ?_
  cases r1 with
  | lst h1 h2 =>
  rename_i p xs
  have z1 := z.stp oo.jL s1
  have q' : Post w.F (off (L ++ w.F.S0) H1) w.W w.C o D' := q.weak z1
  refine ⟨p, rfl, ⟨xs, SqL.of (off_some h1).2⟩, for_list (K := w.X.K) (a := p) (xs := xs) (fun i σ H => TurnAt w body g (off (L ++ w.F.S0) H1) o (ds.drop i) σ H) ⟨ρ, c1, ⟨L, o1, E.step oo.jL s1, kept0⟩, r⟩ ?_ ?_ ?_⟩
  · rintro i σ' H' _ ⟨ρ', c', ⟨L', o', E', k'⟩, _⟩
    exact SqL.of (off_some (k' p _ h1 (fun ps => by intro z; cases z))).2
  · intro i x σ' H' hx t
    obtain ⟨d, hd, rd⟩ := h2.get hx
    rw [drop_at hd] at t
    exact turn_run hw q' t (fun L' c' o' k' => rd.mono k') (fun _ _ a => a) (fun _ _ a => a)
  · intro σ' H' t
    rw [h2.length, List.drop_length] at t
    exact turn_end q' t
theorem sx_for_tup (r : ForRel w body g ds ρ c1 o) (hg : PG w.X tg g) (h : Ev w.X w.F iter ρ c (.tup ds) c1) (hc : w.X.calm = true := by kernel_rfl) (hp : PassesOwn (model w.X.prog w.X.w) w.X.A w.X.env w.X.xe := by exact PassesOwn.never) (hs : ∀ x, foldedSetIterable iter w.X.env x = pure x := by intro _; kernel_rfl) :
    Sx w (.For tg iter body [] pos) ρ c o := fun hw Z σ H ⟨L, oo, E, z⟩ D' q => by
  refine wS_of (ps_for hp hc (pi_tup pe_w) hg pss_w hs) ?_
  refine h hw.k L σ H oo E _ fun v H1 s1 o1 r1 => ?_
  cases r1 with
  | tup h1 h2 =>
  rename_i p xs
  have z1 := z.stp oo.jL s1
  have q' : Post w.F (off (L ++ w.F.S0) H1) w.W w.C o D' := q.weak z1
  have h1' : SqT w.X.K H1 p xs := by
    rw [hw.k]
    exact sqT_mono (fun a o e _ => (off_some e).2) h1
  refine ⟨p, rfl, ⟨xs, h1'⟩, for_tup (K := w.X.K) (a := p) (xs := xs) (fun i σ H => TurnAt w body g (off (L ++ w.F.S0) H1) o (ds.drop i) σ H) ⟨ρ, c1, ⟨L, o1, E.step oo.jL s1, kept0⟩, r⟩ ?_ ?_ ?_⟩
  · rintro i σ' H' _ ⟨ρ', c', ⟨L', o', E', k'⟩, _⟩
    rw [hw.k]
    exact sqT_mono (fun a o e t => (off_some (k' a o e t)).2) h1
  · intro i x σ' H' hx t
    obtain ⟨d, hd, rd⟩ := h2.get hx
    rw [drop_at hd] at t
    exact turn_run hw q' t (fun L' c' o' k' => rd.mono k') (fun _ _ a => a) (fun _ _ a => a)
  · intro σ' H' t
    rw [h2.length, List.drop_length] at t
    exact turn_end q' t
/-- lo, lo + s, ..: n of them -/
def rng (lo s : Int) : Nat → List D
  | 0 => []
  | n + 1 => .int lo :: rng (lo + s) s n
theorem sx_for_rng1 {n : Int} (r : ForRel w body g (rng 0 1 n.toNat) ρ c1 o) (hg : PG w.X tg g) (hgl : Gl w.X "range") (hm : w.X.mg "range" = none) (h : Ev w.X w.F a ρ c (.int n) c1) (hn : -(2 ^ 62) ≤ n ∧ n < 2 ^ 62) (hc : w.X.calm = true := by kernel_rfl) (hp : PassesOwn (model w.X.prog w.X.w) w.X.A w.X.env w.X.xe := by exact PassesOwn.never)
    (he : starEach [a] w.X.env = [(false, eval a w.X.env)] := by kernel_rfl) (hs : ∀ x, foldedSetIterable (.Call (.Name "range" p) [a] [] pos) w.X.env x = pure x := by intro _; kernel_rfl) {pos2 : Pos} :
    Sx w (.For tg (.Call (.Name "range" p) [a] [] pos) body [] pos2) ρ c o := fun hw Z σ H ⟨L, oo, E, z⟩ D' q => by
  refine wS_of (ps_for hp hc (pi_range1 hgl hm (pa_cons pe_w pa_nil he) he) hg pss_w hs) ?_
  refine h hw.k L σ H oo E _ fun v H1 s1 o1 r1 => ?_
  cases r1
  refine ⟨n, rfl, hn.1, hn.2, for_range (lo := 0) (n := n.toNat) (fun i σ H => TurnAt w body g Z o (rng (0 + (i : Int)) 1 (n.toNat - i)) σ H) ⟨ρ, c1, ⟨L, o1, E.step oo.jL s1, z.stp oo.jL s1⟩, r⟩ ?_ ?_⟩
  · intro i σ' H' hi t
    have e : n.toNat - i = (n.toNat - (i + 1)) + 1 := by omega
    have e2 : (0 : Int) + ((i + 1 : Nat) : Int) = 0 + (i : Int) + 1 := by omega
    rw [e] at t
    refine turn_run hw q t (fun L' c' o' k' => .int _) (fun _ _ a => ?_) (fun _ _ a => ?_)
    · rw [e2]; exact a
    · rw [e2]; exact a
  · intro σ' H' t
    rw [Nat.sub_self] at t
    exact turn_end q t
theorem sx_for_rng2 {m n : Int} {c2 : HO} (r : ForRel w body g (rng m 1 (n - m).toNat) ρ c2 o) (hg : PG w.X tg g) (hgl : Gl w.X "range") (hm : w.X.mg "range" = none) (h : Ev w.X w.F a ρ c (.int m) c1) (h2 : Ev w.X w.F b ρ c1 (.int n) c2) (hn : -(2 ^ 62) ≤ m ∧ m < 2 ^ 62 ∧ -(2 ^ 62) ≤ n ∧ n < 2 ^ 62) (hc : w.X.calm = true := by kernel_rfl) (hp : PassesOwn (model w.X.prog w.X.w) w.X.A w.X.env w.X.xe := by exact PassesOwn.never)
    (he : starEach [a, b] w.X.env = [(false, eval a w.X.env), (false, eval b w.X.env)] := by kernel_rfl) (he2 : starEach [b] w.X.env = [(false, eval b w.X.env)] := by kernel_rfl) (hs : ∀ x, foldedSetIterable (.Call (.Name "range" p) [a, b] [] pos) w.X.env x = pure x := by intro _; kernel_rfl) {pos2 : Pos} :
    Sx w (.For tg (.Call (.Name "range" p) [a, b] [] pos) body [] pos2) ρ c o := fun hw Z σ H ⟨L, oo, E, z⟩ D' q => by
  refine wS_of (ps_for hp hc (pi_range2 hgl hm (pa_cons pe_w (pa_cons pe_w pa_nil he2) (by rw [he, he2])) he he2) hg pss_w hs) ?_
  refine h hw.k L σ H oo E _ fun v H1 s1 o1 r1 => h2 hw.k L σ H1 o1 (E.step oo.jL s1) _ fun v2 H2 s2 o2 r2 => ?_
  cases r1
  cases r2
  have z2 := (z.stp oo.jL s1).stp o1.jL s2
  refine ⟨m, n, rfl, hn, for_range (lo := m) (n := (n - m).toNat) (fun i σ H => TurnAt w body g Z o (rng (m + (i : Int)) 1 ((n - m).toNat - i)) σ H) ⟨ρ, c2, ⟨L, o2, (E.step oo.jL s1).step o1.jL s2, z2⟩, by rw [show m + ((0 : Nat) : Int) = m by omega, Nat.sub_zero]; exact r⟩ ?_ ?_⟩
  · intro i σ' H' hi t
    have e : (n - m).toNat - i = ((n - m).toNat - (i + 1)) + 1 := by omega
    have e2 : m + ((i + 1 : Nat) : Int) = m + (i : Int) + 1 := by omega
    rw [e] at t
    refine turn_run hw q t (fun L' c' o' k' => .int _) (fun _ _ a => ?_) (fun _ _ a => ?_)
    · rw [e2]; exact a
    · rw [e2]; exact a
  · intro σ' H' t
    rw [Nat.sub_self] at t
    exact turn_end q t
end
end Fh
end
section
set_option Elab.async false
set_option linter.all false
set_option maxRecDepth 100000
set_option maxHeartbeats 2000000
/-! Comprehensions; the body's own lists; the jar is set; errors are raised. -/
namespace Fh
open PySem PySem.Spec PyProof.Rows L2
/-! ### new lists -/
/-- an expression that makes a new list of ds -/
def EvN (X : Cx) (F : Fx) (e : Expr) (ρ : Rho) (c : HO) (ds : List D) (c' : HO) : Prop := X.K = F.K → ∀ (L : List Addr) (σ : L2.St) (H : Hp), Ok F L c H → Env F L ρ σ H → ∀ Q : VK,
  (∀ p xs H', H p = none → Stp F.j H H' → Ok F (p :: L) c' H' → H' p = some (.lst xs) → Reps F.K F.j (off ((p :: L) ++ F.S0) H') xs ds → Q (.ref p) H') → wE X e σ H Q
theorem Ok.tail {F : Fx} {L : List Addr} {c : HO} {H : Hp} {p : Addr} (h : Ok F (p :: L) c H) : Ok F L c H := ⟨h.jS, h.s0, h.jc, fun a ha => h.tr a (List.mem_cons_of_mem _ ha), h.tb, h.st, fun a ha => h.own a (List.mem_cons_of_mem _ ha), (List.nodup_cons.mp h.ndL).2⟩
theorem EvN.v {X : Cx} {F : Fx} {e : Expr} {ρ : Rho} {c c' : HO} {ds : List D} (h : EvN X F e ρ c ds c') : Ev X F e ρ c (.lst ds) c' := fun hK L σ H o E Q q => h hK L σ H o E Q fun p xs H' hp s o' hx r => by
  have np := o.np hp
  exact q _ H' s o'.tail (.lst (by rw [off_eq np]; exact hx) (r.sub fun a ha => List.mem_cons_of_mem _ ha))
/-- a new address joins the body's own -/
theorem Ok.join {F : Fx} {L : List Addr} {c : HO} {H : Hp} {p : Addr} {xs : List V} (h : Ok F L c H) (hp : H p = none) : Ok F (p :: L) c (upd H p (.lst xs)) := by
  have o := h.new (o := .lst xs) hp
  refine ⟨o.jS, o.s0, o.jc, fun a ha => ?_, o.tb, o.st, fun a ha => ?_, List.nodup_cons.mpr ⟨fun z => h.np hp (List.mem_append_left _ z), h.ndL⟩⟩
  · rcases List.mem_cons.mp (show a ∈ p :: (L ++ F.S0) from ha) with z | z
    · exact ⟨_, by rw [z, upd_same], fun ps => by intro q; cases q⟩
    · exact o.tr a z
  · rcases List.mem_cons.mp ha with z | z
    · rw [z]; exact h.st.live p hp
    · exact h.own a z
theorem Rep.join {F : Fx} {L : List Addr} {c : HO} {H : Hp} {p : Addr} {o : HO} {v : V} {d : D} (hp : H p = none) (r : Rep F.K F.j (off (L ++ F.S0) H) v d) : Rep F.K F.j (off ((p :: L) ++ F.S0) (upd H p o)) v d := r.mono (off_new hp)
theorem Reps.join {F : Fx} {L : List Addr} {c : HO} {H : Hp} {p : Addr} {o : HO} {v : List V} {d : List D} (hp : H p = none) (r : Reps F.K F.j (off (L ++ F.S0) H) v d) : Reps F.K F.j (off ((p :: L) ++ F.S0) (upd H p o)) v d := r.mono (off_new hp)
/-- the slots, when a new address joins -/
theorem Env.join {F : Fx} {L : List Addr} {ρ : Rho} {σ : L2.St} {H : Hp} {p : Addr} {o : HO} (E : Env F L ρ σ H) (hp : H p = none) : Env F (p :: L) ρ σ (upd H p o) where
  len := E.len
  fr := fun i d z => by
    obtain ⟨v, h1, h2⟩ := E.fr i d z
    exact ⟨v, h1, h2.mono (off_new hp)⟩
  ow := fun i ds z => by
    obtain ⟨q, xs, h1, h2, h3, h4, h5⟩ := E.ow i ds z
    exact ⟨q, xs, h1, List.mem_cons_of_mem _ h2, h3, by rw [upd_ne (ne_of_none h4 hp)]; exact h4, h5.mono (off_new hp)⟩
  one := E.one
section
variable {X : Cx} {F : Fx} {ρ : Rho} {c c1 c2 : HO} {d : D} {ds es : List D} {e : Expr} {els : List Expr} {pos : Pos}
theorem evn_lst (h : EvA X F els ρ c ds c1) (hz : ds.length ≤ sizeLine) : EvN X F (.List els pos) ρ c ds c1 := fun hK L σ H o E Q q => by
  refine wE_of (pe_lst pa_w) (h hK L σ H o E _ fun vs H1 s1 o1 r1 => ⟨by rw [r1.length]; exact hz, fun p hp => ?_⟩)
  exact q p vs _ (s1.live p hp) (s1.trans (Stp.new hp)) (o1.join hp) upd_same (r1.mono (off_new hp))
end
/-! ### comprehensions -/
/-- slots but vs are as they were -/
def SameBut (vs : List Nat) (σ σ' : L2.St) : Prop := σ'.length = σ.length ∧ ∀ k, k ∉ vs → σ'[k]? = σ[k]?
theorem wipe_at (σ : L2.St) : ∀ (vs : List Nat) (k : Nat), (L2.wipe σ vs)[k]? = if k ∈ vs ∧ k < σ.length then some none else σ[k]?
  | [], k => by simp [L2.wipe]
  | i :: r, k => by
    show ((L2.wipe σ r).set i none)[k]? = _
    by_cases hk : k = i
    · subst hk
      by_cases hl : k < σ.length
      · rw [List.getElem?_set_self (by rw [L2.wipe_length]; exact hl), if_pos ⟨List.mem_cons_self, hl⟩]
      · rw [List.getElem?_eq_none (by rw [List.length_set, L2.wipe_length]; omega), if_neg (fun z => hl z.2), List.getElem?_eq_none (by omega)]
    · rw [List.getElem?_set_ne (Ne.symm hk), wipe_at σ r k]
      by_cases hm : k ∈ r
      · simp [hm]
      · simp [hm, hk]
theorem wipe_same {vs : List Nat} {σ σ' : L2.St} (h : SameBut vs (L2.wipe σ vs) σ') : L2.wipe σ' vs = L2.wipe σ vs := by
  apply List.ext_getElem?
  intro k
  rw [wipe_at, wipe_at]
  have hl : σ'.length = σ.length := by rw [h.1, L2.wipe_length]
  rw [hl]
  by_cases hm : k ∈ vs ∧ k < σ.length
  · rw [if_pos hm, if_pos hm]
  · rw [if_neg hm, if_neg hm]
    by_cases hk : k ∈ vs
    · have hge : σ.length ≤ k := by
        by_cases hlt : k < σ.length
        · exact absurd ⟨hk, hlt⟩ hm
        · omega
      rw [List.getElem?_eq_none (by omega), List.getElem?_eq_none hge]
    · rw [h.2 k hk, wipe_at, if_neg (fun z => hk z.1)]
/-- a block's target takes a thing -/
def BindC (F : Fx) (g : TG) (vs : List Nat) (d : D) (ρ ρ' : Rho) : Prop := ∀ (L : List Addr) (c : HO) (σ : L2.St) (H : Hp) (v : V), Ok F L c H → Env F L ρ σ H → Rep F.K F.j (off (L ++ F.S0) H) v d → ∀ Q : L2.St → Hp → Prop, (∀ σ', Env F L ρ' σ' H → SameBut vs σ σ' → Q σ' H) → g v σ H Q
theorem same_set {vs : List Nat} {σ : L2.St} {i : Nat} {v : Option V} (hi : i ∈ vs) : SameBut vs σ (σ.set i v) := ⟨List.length_set, fun k hk => List.getElem?_set_ne fun z => hk (by rw [← z]; exact hi)⟩
theorem SameBut.trans {vs : List Nat} {a b c : L2.St} (h : SameBut vs a b) (k : SameBut vs b c) : SameBut vs a c := ⟨k.1.trans h.1, fun i hi => (k.2 i hi).trans (h.2 i hi)⟩
theorem bindc_name {F : Fx} {i : Nat} {vs : List Nat} {d : D} {ρ : Rho} (hi : i < ρ.length := by exact Nat.le_of_ble_eq_true rfl) (hv : i ∈ vs := by decide) : BindC F (gName i) vs d ρ (ρ.set i (some (.fr d))) := fun L c σ H v o E r Q q => q _ (E.put r hi) (same_set hv)
theorem bindc_two {F : Fx} {K : PySem.W.Frag} {i k : Nat} {vs : List Nat} {d e : D} {ρ : Rho} (hK : K = F.K) (hi : i < ρ.length := by exact Nat.le_of_ble_eq_true rfl) (hk : k < ρ.length := by exact Nat.le_of_ble_eq_true rfl) (hv : i ∈ vs := by decide) (hv2 : k ∈ vs := by decide) :
    BindC F (gTup K 2 (gCons (gName i) (gCons (gName k) gNil))) vs (.tup [d, e]) ρ ((ρ.set i (some (.fr d))).set k (some (.fr e))) := fun L c σ H v o E r Q q => by
  obtain ⟨p, xs, ev, h1, h2⟩ := r.tupAt
  rw [hK]
  cases h2 with
  | cons r1 t =>
    cases t with
    | cons r2 t =>
      cases t
      refine ⟨p, _, ev, h1, rfl, _, _, rfl, _, _, rfl, rfl, q _ ((E.put r1 hi).put r2 (by rw [List.length_set]; exact hk)) ((same_set hv).trans (same_set hv2))⟩
/-- what a comprehension over known things makes: T tells of the block's test, V of its element -/
inductive LcRel (F : Fx) (g : TG) (vs : List Nat) (ρ : Rho) (T : Rho → HO → Bool → HO → Prop) (V : Rho → HO → D → HO → Prop) : List D → HO → List D → HO → Prop
  | done (c : HO) : LcRel F g vs ρ T V [] c [] c
  | yes {d e : D} {ds es : List D} {ρ1 : Rho} {c c1 c2 c3 : HO} (hb : BindC F g vs d ρ ρ1) (ht : T ρ1 c true c1) (he : V ρ1 c1 e c2) (t : LcRel F g vs ρ T V ds c2 es c3) : LcRel F g vs ρ T V (d :: ds) c (e :: es) c3
  | no {d : D} {ds es : List D} {ρ1 : Rho} {c c1 c3 : HO} (hb : BindC F g vs d ρ ρ1) (ht : T ρ1 c false c1) (t : LcRel F g vs ρ T V ds c1 es c3) : LcRel F g vs ρ T V (d :: ds) c es c3
/-- slots emptied -/
def wipeR (ρ : Rho) : List Nat → Rho
  | [] => ρ
  | i :: r => (wipeR ρ r).set i none
theorem Env.wipe1 {F : Fx} {L : List Addr} {ρ : Rho} {σ : L2.St} {H : Hp} (E : Env F L ρ σ H) (i : Nat) : Env F L (ρ.set i none) (σ.set i none) H where
  len := by rw [List.length_set, List.length_set]; exact E.len
  fr := fun k d z => by
    by_cases hk : k = i
    · subst hk
      by_cases hl : k < ρ.length
      · rw [List.getElem?_set_self hl] at z; cases z
      · rw [List.getElem?_eq_none (by simpa using hl)] at z; cases z
    · rw [List.getElem?_set_ne (Ne.symm hk)] at z ⊢
      exact E.fr k d z
  ow := fun k d z => by
    by_cases hk : k = i
    · subst hk
      by_cases hl : k < ρ.length
      · rw [List.getElem?_set_self hl] at z; cases z
      · rw [List.getElem?_eq_none (by simpa using hl)] at z; cases z
    · rw [List.getElem?_set_ne (Ne.symm hk)] at z ⊢
      exact E.ow k d z
  one := fun a b ds es p z1 z2 h1 h2 => by
    have key : ∀ {a : Nat} {ds : List D}, (ρ.set i none)[a]? = some (some (.ow ds)) → a ≠ i := fun {a ds} z q => by
      subst q
      by_cases hl : a < ρ.length
      · rw [List.getElem?_set_self hl] at z; cases z
      · rw [List.getElem?_eq_none (by simpa using hl)] at z; cases z
    have ha := key z1
    have hb := key z2
    rw [List.getElem?_set_ne (Ne.symm ha)] at z1 h1
    rw [List.getElem?_set_ne (Ne.symm hb)] at z2 h2
    exact E.one a b ds es p z1 z2 h1 h2
theorem Env.wipe {F : Fx} {L : List Addr} {H : Hp} : ∀ {vs : List Nat} {ρ : Rho} {σ : L2.St}, Env F L ρ σ H → Env F L (wipeR ρ vs) (L2.wipe σ vs) H
  | [], _, _, E => E
  | i :: r, _, _, E => (E.wipe (vs := r)).wipe1 i
section
variable {X : Cx} {F : Fx} {ρ : Rho} {c c1 c2 c3 : HO} {d : D} {ds es : List D} {elt tg iter a b : Expr} {ifs : List Expr} {scope : Scope} {own : List (Str × Nat)} {pos p : Pos} {g : TG}
/-- in the block: the test, the element -/
abbrev BT (X : Cx) (F : Fx) (scope : Scope) (ifs : List Expr) : Rho → HO → Bool → HO → Prop := fun ρ c b c' => match ifs with
  | [] => b = true ∧ c' = c
  | [e] => ∀ (s : Shared) (H : Hp) (C : Addr) (cl : List (Str × Addr)) (fp : List Addr), EvT (X.blk s H scope (compEnvC scope cl C X.env) fp) F e ρ c b c'
  | _ => False
abbrev BV (X : Cx) (F : Fx) (scope : Scope) (elt : Expr) : Rho → HO → D → HO → Prop := fun ρ c d c' => ∀ (s : Shared) (H : Hp) (C : Addr) (cl : List (Str × Addr)) (fp : List Addr), Ev (X.blk s H scope (compEnvC scope cl C X.env) fp) F elt ρ c d c'
/-- the wishes of all blocks at once -/
def wBT (X : Cx) (scope : Scope) (ifs : List Expr) : TT := fun σ H Q => match ifs with
  | [] => Q true H
  | [e] => ∀ (s : Shared) (H' : Hp) (C : Addr) (cl : List (Str × Addr)) (fp : List Addr), wT (X.blk s H' scope (compEnvC scope cl C X.env) fp) e σ H Q
  | _ => False
def wBV (X : Cx) (scope : Scope) (elt : Expr) : TE := fun σ H Q => ∀ (s : Shared) (H' : Hp) (C : Addr) (cl : List (Str × Addr)) (fp : List Addr), wE (X.blk s H' scope (compEnvC scope cl C X.env) fp) elt σ H Q
theorem pe_bv (s : Shared) (H : Hp) (C : Addr) (cl : List (Str × Addr)) (fp : List Addr) : PE (X.blk s H scope (compEnvC scope cl C X.env) fp) elt (wBV X scope elt) := ⟨fun pins s' σ H' Q I h => h s H C cl fp pins s' I⟩
theorem pts_bt (hi : ifs.length ≤ 1) (s : Shared) (H : Hp) (C : Addr) (cl : List (Str × Addr)) (fp : List Addr) : PTs (X.blk s H scope (compEnvC scope cl C X.env) fp) ifs (wBT X scope ifs) := by
  match ifs, hi with
  | [], _ => exact pts_nil
  | [e], _ => exact pts_one ⟨fun pins s' σ H' Q I h => h s H C cl fp pins s' I⟩
/-- between two turns: the list at Dl has what is made so far -/
def LcAt (F : Fx) (g : TG) (vs : List Nat) (ρ : Rho) (T : Rho → HO → Bool → HO → Prop) (V : Rho → HO → D → HO → Prop) (L : List Addr) (σ : L2.St) (H1 : Hp) (Dl : Addr) (all : List D) (c3 : HO) (left : List D) (H : Hp) : Prop :=
  ∃ c acc made rest, Ok F (Dl :: L) c H ∧ Env F (Dl :: L) ρ σ H ∧ Stp F.j H1 H ∧ H Dl = some (.lst acc) ∧ Reps F.K F.j (off ((Dl :: L) ++ F.S0) H) acc made ∧ LcRel F g vs (wipeR ρ vs) T V left c rest c3 ∧ all = made ++ rest
variable {vs : List Nat} {L : List Addr} {σ : L2.St} {H1 H : Hp} {Dl : Addr} {all left : List D}
theorem LcRel.size {T : Rho → HO → Bool → HO → Prop} {V : Rho → HO → D → HO → Prop} {ds es : List D} {c c3 : HO} (h : LcRel F g vs ρ T V ds c es c3) : es.length ≤ ds.length := by
  induction h with
  | done => exact Nat.le_refl _
  | yes _ _ _ _ ih => exact Nat.succ_le_succ ih
  | no _ _ _ ih => exact Nat.le_succ_of_le ih
theorem lc_start (hK : X.K = F.K) (o : Ok F L c H1) (E : Env F L ρ σ H1) (hD : H1 Dl = none) (r : LcRel F g vs (wipeR ρ vs) (BT X F scope ifs) (BV X F scope elt) ds c es c3) :
    LcAt F g vs ρ (BT X F scope ifs) (BV X F scope elt) L σ H1 Dl es c3 ds (upd H1 Dl (.lst [])) :=
  ⟨c, [], [], es, o.join hD, E.join hD, Stp.new hD, upd_same, .nil, r, rfl⟩
/-- own lists of the body may be written -/
theorem tabs_upd {T : List (Addr × Str)} {H : Hp} {p : Addr} {xs ys : List V} (h : LamX.Tabs T H) (hx : H p = some (.lst ys)) : LamX.Tabs T (upd H p (.lst xs)) := fun q hq => by
  obtain ⟨ps, h1, h2, h3⟩ := h q hq
  refine ⟨ps, by rw [upd_ne (ne_of h1 hx (by intro z; cases z))]; exact h1, h2, fun pos cv hc => ?_⟩
  obtain ⟨cc, e1, e2⟩ := h3 pos cv hc
  exact ⟨cc, e1, by rw [upd_ne (ne_of e2 hx (by unfold LamX.CodeO; intro z; cases z))]; exact e2⟩
theorem Ok.write {F : Fx} {L : List Addr} {c : HO} {H : Hp} {p : Addr} {xs ys : List V} (h : Ok F L c H) (hp : p ∈ L) (hx : H p = some (.lst ys)) (hj : p ≠ F.j) : Ok F L c (upd H p (.lst xs)) where
  jS := h.jS
  s0 := h.s0
  jc := by rw [upd_ne (Ne.symm hj)]; exact h.jc
  tr := fun a ha => by
    by_cases z : a = p
    · exact ⟨_, by rw [z, upd_same], fun ps => by intro q; cases q⟩
    · obtain ⟨o, e1, e2⟩ := h.tr a ha
      exact ⟨o, by rw [upd_ne z]; exact e1, e2⟩
  tb := tabs_upd h.tb hx
  st := h.st.own (h.own p hp)
  own := h.own
  ndL := h.ndL
/-- what avoids p does not see it written -/
theorem off_write {S : List Addr} {H : Hp} {p : Addr} {u : HO} (hp : p ∈ S) : ∀ a o, off S H a = some o → (∀ ps, o ≠ .tbl ps) → off S (upd H p u) a = some o := fun a o e _ => by
  obtain ⟨n, e⟩ := off_some e
  rw [off_eq n, upd_ne (fun z => n (by rw [z]; exact hp))]
  exact e
theorem Env.other {F : Fx} {L : List Addr} {ρ : Rho} {σ : L2.St} {H : Hp} {p : Addr} {u : HO} (E : Env F L ρ σ H) (hp : p ∈ L) (hn : ∀ (i : Nat) (ds : List D), ρ[i]? = some (some (Sl.ow ds)) → σ[i]? ≠ some (some (V.ref p))) : Env F L ρ σ (upd H p u) where
  len := E.len
  fr := fun i d z => by
    obtain ⟨v, h1, h2⟩ := E.fr i d z
    exact ⟨v, h1, h2.mono (off_write (List.mem_append_left _ hp))⟩
  ow := fun i ds z => by
    obtain ⟨q, xs, h1, h2, h3, h4, h5⟩ := E.ow i ds z
    have ne : q ≠ p := fun e => hn i ds z (by rw [e] at h1; exact h1)
    exact ⟨q, xs, h1, h2, h3, by rw [upd_ne ne]; exact h4, h5.mono (off_write (List.mem_append_left _ hp))⟩
  one := E.one
/-- a turn -/
theorem lc_turn (hK : X.K = F.K) (nD : ∀ (i : Nat) (ds : List D), ρ[i]? = some (some (Sl.ow ds)) → σ[i]? ≠ some (some (V.ref Dl))) (nH : H1 Dl = none) {v : V} (hz : all.length < sizeLine)
    (h : LcAt F g vs ρ (BT X F scope ifs) (BV X F scope elt) L σ H1 Dl all c3 (d :: left) H) (hv : Rep F.K F.j (off ((Dl :: L) ++ F.S0) H) v d) :
    g v (L2.wipe σ vs) H fun σ2 H2 => L2.wipe σ2 vs = L2.wipe σ vs ∧ wBT X scope ifs σ2 H2 fun b H3 =>
      if b = true then wBV X scope elt σ2 H3 fun y H4 => ∃ acc, H4 Dl = some (.lst acc) ∧ acc.length < sizeLine ∧ LcAt F g vs ρ (BT X F scope ifs) (BV X F scope elt) L σ H1 Dl all c3 left (upd H4 Dl (.lst (acc ++ [y])))
      else LcAt F g vs ρ (BT X F scope ifs) (BV X F scope elt) L σ H1 Dl all c3 left H3 := by
  obtain ⟨c, acc, made, rest, o, E, s, hD, r, rel, ea⟩ := h
  have mD : Dl ∈ Dl :: L := List.mem_cons_self
  have jD : Dl ≠ F.j := fun z => o.j0 (by rw [← z]; exact o.own Dl mD)
  have test : ∀ {σ2 : L2.St} {ρ1 : Rho} {b : Bool} {c1 : HO}, Env F (Dl :: L) ρ1 σ2 H → BT X F scope ifs ρ1 c b c1 → ∀ Q : Bool → Hp → Prop, (∀ H', Stp F.j H H' → Ok F (Dl :: L) c1 H' → Q b H') → wBT X scope ifs σ2 H Q := by
    intro σ2 ρ1 b c1 E1 ht Q q
    match ifs, ht with
    | [], ⟨hb, hc⟩ =>
      subst hb hc
      exact q H (Stp.refl _ _) o
    | [e], ht => exact fun s' H' C cl fp => ht s' H' C cl fp hK _ _ _ o E1 Q q
  have elem : ∀ {σ2 : L2.St} {ρ1 : Rho} {e : D} {c1 c2 : HO} {H' : Hp}, Env F (Dl :: L) ρ1 σ2 H' → Ok F (Dl :: L) c1 H' → BV X F scope elt ρ1 c1 e c2 → ∀ Q : VK, Aft F (Dl :: L) H' c2 e Q → wBV X scope elt σ2 H' Q := by
    intro σ2 ρ1 e c1 c2 H' E1 o1 he Q q s' H'' C cl fp
    exact he s' H'' C cl fp hK _ _ _ o1 E1 Q q
  cases rel with
  | yes hb ht he t =>
    rename_i e es' ρ1 c1 c2
    refine hb (Dl :: L) c _ H v o E.wipe hv _ fun σ2 E2 sb => ⟨wipe_same sb, test E2 ht _ fun H3 s3 o3 => iteT (elem (E2.step o.jL s3) o3 he _ fun y H4 s4 o4 ry => ?_)⟩
    have s34 := s3.trans s4
    have hD4 : H4 Dl = some (.lst acc) := s34.keep Dl _ jD hD (fun ps => by intro z; cases z)
    have r4 := r.stp o.jL s34
    have hl : acc.length < sizeLine := by
      have h1 := r.length
      have h2 : all.length = made.length + (e :: es').length := by rw [ea, List.length_append]
      omega
    have mS : Dl ∈ (Dl :: L) ++ F.S0 := List.mem_append_left _ mD
    refine ⟨acc, hD4, hl, c2, acc ++ [y], made ++ [e], es', o4.write mD hD4 jD, ((E.step o.jL s34)).other mD nD, (s.trans s34).own nH, upd_same, (r4.append (.cons ry .nil)).mono (off_write mS), t, by rw [ea, List.append_assoc]; rfl⟩
  | no hb ht t =>
    rename_i ρ1 c1
    refine hb (Dl :: L) c _ H v o E.wipe hv _ fun σ2 E2 sb => ⟨wipe_same sb, test E2 ht _ fun H3 s3 o3 => iteF ?_⟩
    exact ⟨c1, acc, made, _, o3, E.step o.jL s3, s.trans s3, s3.keep Dl _ jD hD (fun ps => by intro z; cases z), r.stp o.jL s3, t, ea⟩
theorem lc_end {Q : VK} {H0 : Hp} (n0 : H0 Dl = none) (s0 : Stp F.j H0 H1) (h : LcAt F g vs ρ (BT X F scope ifs) (BV X F scope elt) L σ H1 Dl all c3 [] H)
    (q : ∀ p xs H', H0 p = none → Stp F.j H0 H' → Ok F (p :: L) c3 H' → H' p = some (.lst xs) → Reps F.K F.j (off ((p :: L) ++ F.S0) H') xs all → Q (.ref p) H') : Q (.ref Dl) H := by
  obtain ⟨c, acc, made, rest, o, E, s, hD, r, rel, ea⟩ := h
  cases rel
  rw [List.append_nil] at ea
  rw [ea] at q
  exact q Dl acc H n0 (s0.trans s) o hD r
theorem own_not {L : List Addr} {H : Hp} (E : Env F L ρ σ H) (hD : Dl ∉ L) : ∀ (i : Nat) (ds : List D), ρ[i]? = some (some (Sl.ow ds)) → σ[i]? ≠ some (some (V.ref Dl)) := fun i ds z e => by
  obtain ⟨p, xs, h1, h2, _⟩ := E.ow i ds z
  rw [h1] at e
  cases e
  exact hD h2
/-- the reading of a comprehension over a list, a tuple, a range -/
def LcRun (X : Cx) (F : Fx) (wi : TI) (g : TG) (tt : TT) (te : TE) (vs : List Nat) (ρ : Rho) (c : HO) (es : List D) (c' : HO) : Prop := ∀ (L : List Addr) (σ : L2.St) (H : Hp), Ok F L c H → Env F L ρ σ H → ∀ Q : VK,
  (∀ p xs H', H p = none → Stp F.j H H' → Ok F (p :: L) c' H' → H' p = some (.lst xs) → Reps F.K F.j (off ((p :: L) ++ F.S0) H') xs es → Q (.ref p) H') → tLc wi g tt te vs σ H Q
theorem lcrun_lst (hK : X.K = F.K) (h : Ev X F iter ρ c (.lst ds) c1) (r : LcRel F g vs (wipeR ρ vs) (BT X F scope ifs) (BV X F scope elt) ds c1 es c3) (hz : es.length < sizeLine) :
    LcRun X F (iList X.K (wE X iter)) g (wBT X scope ifs) (wBV X scope elt) vs ρ c es c3 := fun L σ H o E Q q => by
  refine h hK L σ H o E _ fun v H1 s1 o1 r1 => ?_
  cases r1 with
  | lst h1 h2 =>
  rename_i p xs
  have E1 := E.step o.jL s1
  refine ⟨p, rfl, ⟨xs, SqL.of (off_some h1).2⟩, fun Dl hD => ?_⟩
  have nL : Dl ∉ L := fun z => o1.np hD (List.mem_append_left _ z)
  have npD : p ≠ Dl := ne_of_none (off_some h1).2 hD
  have stay : ∀ {left : List D} {H' : Hp}, LcAt F g vs ρ (BT X F scope ifs) (BV X F scope elt) L σ H1 Dl es c3 left H' → ∀ a o, off (L ++ F.S0) H1 a = some o → (∀ ps, o ≠ .tbl ps) → off ((Dl :: L) ++ F.S0) H' a = some o := by
    intro left H' ⟨c, acc, made, rest, o', E', s', hD', r', rel', ea'⟩ a u e t
    obtain ⟨n, e⟩ := off_some e
    have na : a ≠ Dl := ne_of_none e hD
    rw [off_eq (fun z => by
      rcases List.mem_cons.mp (show a ∈ Dl :: (L ++ F.S0) from z) with z | z
      · exact na z
      · exact n z)]
    exact s'.keep a u (fun z => n (by rw [z]; exact o1.jL)) e t
  refine lc_list (K := X.K) (a := p) (xs := xs) (fun i H => LcAt F g vs ρ (BT X F scope ifs) (BV X F scope elt) L σ H1 Dl es c3 (ds.drop i) H) (lc_start hK o1 E1 hD r) ?_ ?_ ?_
  · intro i H' _ a
    exact SqL.of (off_some (stay a p _ h1 (fun ps => by intro z; cases z))).2
  · intro i x H' hx a
    obtain ⟨d, hd, rd⟩ := h2.get hx
    rw [drop_at hd] at a
    exact lc_turn hK (own_not E1 nL) hD hz a (rd.mono (stay a))
  · intro H' a
    rw [h2.length, List.drop_length] at a
    exact lc_end (s1.live Dl hD) s1 a q
theorem lcrun_tup (hK : X.K = F.K) (h : Ev X F iter ρ c (.tup ds) c1) (r : LcRel F g vs (wipeR ρ vs) (BT X F scope ifs) (BV X F scope elt) ds c1 es c3) (hz : es.length < sizeLine) :
    LcRun X F (iTup X.K (wE X iter)) g (wBT X scope ifs) (wBV X scope elt) vs ρ c es c3 := fun L σ H o E Q q => by
  refine h hK L σ H o E _ fun v H1 s1 o1 r1 => ?_
  cases r1 with
  | tup h1 h2 =>
  rename_i p xs
  have E1 := E.step o.jL s1
  have h1' : SqT X.K H1 p xs := by
    rw [hK]
    exact sqT_mono (fun a o e _ => (off_some e).2) h1
  refine ⟨p, rfl, ⟨xs, h1'⟩, fun Dl hD => ?_⟩
  have nL : Dl ∉ L := fun z => o1.np hD (List.mem_append_left _ z)
  have stay : ∀ {left : List D} {H' : Hp}, LcAt F g vs ρ (BT X F scope ifs) (BV X F scope elt) L σ H1 Dl es c3 left H' → ∀ a o, off (L ++ F.S0) H1 a = some o → (∀ ps, o ≠ .tbl ps) → off ((Dl :: L) ++ F.S0) H' a = some o := by
    intro left H' ⟨c, acc, made, rest, o', E', s', hD', r', rel', ea'⟩ a u e t
    obtain ⟨n, e⟩ := off_some e
    have na : a ≠ Dl := ne_of_none e hD
    rw [off_eq (fun z => by
      rcases List.mem_cons.mp (show a ∈ Dl :: (L ++ F.S0) from z) with z | z
      · exact na z
      · exact n z)]
    exact s'.keep a u (fun z => n (by rw [z]; exact o1.jL)) e t
  refine lc_tup (K := X.K) (a := p) (xs := xs) (fun i H => LcAt F g vs ρ (BT X F scope ifs) (BV X F scope elt) L σ H1 Dl es c3 (ds.drop i) H) (lc_start hK o1 E1 hD r) ?_ ?_ ?_
  · intro i H' _ a
    rw [hK]
    exact sqT_mono (fun b u e t => (off_some (stay a b u e t)).2) h1
  · intro i x H' hx a
    obtain ⟨d, hd, rd⟩ := h2.get hx
    rw [drop_at hd] at a
    exact lc_turn hK (own_not E1 nL) hD hz a (rd.mono (stay a))
  · intro H' a
    rw [h2.length, List.drop_length] at a
    exact lc_end (s1.live Dl hD) s1 a q
theorem lcrun_rng1 {n : Int} {e : Expr} (hK : X.K = F.K) (h : Ev X F e ρ c (.int n) c1) (hn : -(2 ^ 62) ≤ n ∧ n < 2 ^ 62) (r : LcRel F g vs (wipeR ρ vs) (BT X F scope ifs) (BV X F scope elt) (rng 0 1 n.toNat) c1 es c3) (hz : es.length < sizeLine) :
    LcRun X F (iRng1 (tCons (wE X e) tNil)) g (wBT X scope ifs) (wBV X scope elt) vs ρ c es c3 := fun L σ H o E Q q => by
  refine h hK L σ H o E _ fun v H1 s1 o1 r1 => ?_
  cases r1
  have E1 := E.step o.jL s1
  refine ⟨n, rfl, hn.1, hn.2, fun Dl hD => ?_⟩
  have nL : Dl ∉ L := fun z => o1.np hD (List.mem_append_left _ z)
  refine lc_range (lo := 0) (n := n.toNat) (fun i H => LcAt F g vs ρ (BT X F scope ifs) (BV X F scope elt) L σ H1 Dl es c3 (rng (0 + (i : Int)) 1 (n.toNat - i)) H) (lc_start hK o1 E1 hD r) ?_ ?_
  · intro i H' hi a
    have e1 : n.toNat - i = (n.toNat - (i + 1)) + 1 := by omega
    have e2 : (0 : Int) + ((i + 1 : Nat) : Int) = 0 + (i : Int) + 1 := by omega
    rw [e1] at a
    rw [e2]
    exact lc_turn hK (own_not E1 nL) hD hz a (.int _)
  · intro H' a
    rw [Nat.sub_self] at a
    exact lc_end (s1.live Dl hD) s1 a q
theorem lcrun_rng2 {m n : Int} {e e2 : Expr} (hK : X.K = F.K) (h : Ev X F e ρ c (.int m) c1) (h2 : Ev X F e2 ρ c1 (.int n) c2) (hn : -(2 ^ 62) ≤ m ∧ m < 2 ^ 62 ∧ -(2 ^ 62) ≤ n ∧ n < 2 ^ 62) (r : LcRel F g vs (wipeR ρ vs) (BT X F scope ifs) (BV X F scope elt) (rng m 1 (n - m).toNat) c2 es c3) (hz : es.length < sizeLine) :
    LcRun X F (iRng2 (tCons (wE X e) (tCons (wE X e2) tNil))) g (wBT X scope ifs) (wBV X scope elt) vs ρ c es c3 := fun L σ H o E Q q => by
  refine h hK L σ H o E _ fun v H0 s0 o0 r0 => h2 hK L σ H0 o0 (E.step o.jL s0) _ fun v H1 s1' o1 r1 => ?_
  cases r1
  cases r0
  have s1 := s0.trans s1'
  have E1 := E.step o.jL s1
  refine ⟨m, n, rfl, hn, fun Dl hD => ?_⟩
  have nL : Dl ∉ L := fun z => o1.np hD (List.mem_append_left _ z)
  refine lc_range (lo := m) (n := (n - m).toNat) (fun i H => LcAt F g vs ρ (BT X F scope ifs) (BV X F scope elt) L σ H1 Dl es c3 (rng (m + (i : Int)) 1 ((n - m).toNat - i)) H) (lc_start hK o1 E1 hD (by rw [show m + ((0 : Nat) : Int) = m by omega, Nat.sub_zero]; exact r)) ?_ ?_
  · intro i H' hi a
    have e1 : (n - m).toNat - i = ((n - m).toNat - (i + 1)) + 1 := by omega
    have e2 : m + ((i + 1 : Nat) : Int) = m + (i : Int) + 1 := by omega
    rw [e1] at a
    rw [e2]
    exact lc_turn hK (own_not E1 nL) hD hz a (.int _)
  · intro H' a
    rw [Nat.sub_self] at a
    exact lc_end (s1.live Dl hD) s1 a q
/-- .. as an expression -/
theorem evn_lc {wi : TI} (hi : PI X tg iter wi) (hr : X.K = F.K → LcRun X F wi g (wBT X scope ifs) (wBV X scope elt) (own.map (·.2)) ρ c es c3) (hl : ifs.length ≤ 1) (ok : blkC X.N X.env.scope scope own = true) (hg : ∀ (s : Shared) (H : Hp) (C : Addr) (cl : List (Str × Addr)) (fp : List Addr), PG (X.blk s H scope (compEnvC scope cl C X.env) fp) tg g)
    (hN : X.N.Nodup) (hc : X.calm = true := by kernel_rfl) (hs : ∀ x, foldedSetIterable iter X.env x = pure x := by intro _; kernel_rfl) : EvN X F (.ListComp elt [⟨tg, iter, ifs, 0⟩] scope pos) ρ c es c3 := fun hK L σ H o E Q q =>
  wE_of (pe_lc hc hN hi (blkOk_by ok) hg (pts_bt hl) (pe_bv) hs) (hr hK L σ H o E Q q)
end
end Fh
end
section
set_option Elab.async false
set_option linter.all false
set_option maxRecDepth 100000
set_option maxHeartbeats 2000000
/-! Statements: own lists, several targets, the jar is set, errors. -/
namespace Fh
open PySem PySem.Spec PyProof.Rows L2
section
variable {w : Wh} {ρ ρ1 : Rho} {c c1 c2 : HO} {d d1 d2 : D} {ds es : List D} {st : Stmt} {rest sts : List Stmt} {o : Out} {e ea eb : Expr} {els : List Expr} {pos : Pos} {x y : Str} {px py pt : Pos}
/-- a slot is set to a new list -/
theorem Env.putN {F : Fx} {L : List Addr} {σ : L2.St} {H : Hp} {i : Nat} {p : Addr} {xs : List V} (E : Env F (p :: L) ρ σ H) (hn : ∀ (k : Nat) (es : List D), ρ[k]? = some (some (Sl.ow es)) → σ[k]? ≠ some (some (V.ref p))) (hx : H p = some (.lst xs)) (hj : p ≠ F.j) (r : Reps F.K F.j (off ((p :: L) ++ F.S0) H) xs ds) (hi : i < ρ.length) :
    Env F (p :: L) (ρ.set i (some (.ow ds))) (σ.set i (some (.ref p))) H where
  len := by rw [List.length_set, List.length_set]; exact E.len
  fr := fun k d' z => by
    by_cases hk : k = i
    · subst hk
      rw [List.getElem?_set_self hi] at z
      cases z
    · rw [List.getElem?_set_ne (Ne.symm hk)] at z ⊢
      exact E.fr k d' z
  ow := fun k es z => by
    by_cases hk : k = i
    · subst hk
      rw [List.getElem?_set_self hi] at z
      cases z
      exact ⟨p, xs, List.getElem?_set_self (by rw [E.len]; exact hi), List.mem_cons_self, hj, hx, r⟩
    · rw [List.getElem?_set_ne (Ne.symm hk)] at z ⊢
      exact E.ow k es z
  one := fun a b as bs q z1 z2 h1 h2 => by
    have hiσ : i < σ.length := by rw [E.len]; exact hi
    by_cases ha : a = i
    · by_cases hb : b = i
      · rw [ha, hb]
      · exfalso
        subst ha
        rw [List.getElem?_set_self hiσ] at h1
        cases h1
        rw [List.getElem?_set_ne (Ne.symm hb)] at z2 h2
        exact hn b bs z2 h2
    · by_cases hb : b = i
      · exfalso
        subst hb
        rw [List.getElem?_set_self hiσ] at h2
        cases h2
        rw [List.getElem?_set_ne (Ne.symm ha)] at z1 h1
        exact hn a as z1 h1
      · rw [List.getElem?_set_ne (Ne.symm ha)] at z1 h1
        rw [List.getElem?_set_ne (Ne.symm hb)] at z2 h2
        exact E.one a b as bs q z1 z2 h1 h2
theorem Env.more {F : Fx} {L : List Addr} {σ : L2.St} {H H' : Hp} {p : Addr} (E : Env F L ρ σ H) (hj : F.j ∈ L ++ F.S0) (hp : H p = none) (s : Stp F.j H H') : Env F (p :: L) ρ σ H' where
  len := E.len
  fr := fun i d z => by
    obtain ⟨v, h1, h2⟩ := E.fr i d z
    exact ⟨v, h1, h2.mono fun a o e t => by
      obtain ⟨n, e⟩ := off_some e
      rw [off_eq (fun z => by
        rcases List.mem_cons.mp (show a ∈ p :: (L ++ F.S0) from z) with z | z
        · exact ne_of_none e hp z
        · exact n z)]
      exact s.keep a o (fun z => n (by rw [z]; exact hj)) e t⟩
  ow := fun i ds z => by
    obtain ⟨q, xs, h1, h2, h3, h4, h5⟩ := E.ow i ds z
    exact ⟨q, xs, h1, List.mem_cons_of_mem _ h2, h3, s.keep q _ h3 h4 (fun ps => by intro z; cases z), h5.mono fun a o e t => by
      obtain ⟨n, e⟩ := off_some e
      rw [off_eq (fun z => by
        rcases List.mem_cons.mp (show a ∈ p :: (L ++ F.S0) from z) with z | z
        · exact ne_of_none e hp z
        · exact n z)]
      exact s.keep a o (fun z => n (by rw [z]; exact hj)) e t⟩
  one := E.one
theorem Kept.more {F : Fx} {Z : Hp} {L : List Addr} {H H' : Hp} {p : Addr} (h : Kept F Z L H) (hj : F.j ∈ L ++ F.S0) (hp : H p = none) (s : Stp F.j H H') : Kept F Z (p :: L) H' := fun a o z t => by
  obtain ⟨n, e⟩ := off_some (h a o z t)
  rw [off_eq (fun z => by
    rcases List.mem_cons.mp (show a ∈ p :: (L ++ F.S0) from z) with z | z
    · exact ne_of_none e hp z
    · exact n z)]
  exact s.keep a o (fun z => n (by rw [z]; exact hj)) e t
/-- the state behind x = [..] -/
theorem At.putN {F : Fx} {Z : Hp} {L : List Addr} {σ : L2.St} {H H' : Hp} {i : Nat} {p : Addr} {xs : List V} (oo : Ok F L c H) (E : Env F L ρ σ H) (z : Kept F Z L H) (hp : H p = none) (s : Stp F.j H H') (o1 : Ok F (p :: L) c1 H') (hx : H' p = some (.lst xs)) (r : Reps F.K F.j (off ((p :: L) ++ F.S0) H') xs ds) (hi : i < ρ.length) :
    At F Z (ρ.set i (some (.ow ds))) c1 (σ.set i (some (.ref p))) H' :=
  ⟨p :: L, o1, (E.more oo.jL hp s).putN (own_not E fun q => oo.np hp (List.mem_append_left _ q)) hx (fun q => o1.j0 (by rw [← q]; exact o1.own p List.mem_cons_self)) r hi, z.more oo.jL hp s⟩
theorem sx_setN (i : Nat) (h : EvN w.X w.F e ρ c ds c1) (hN : w.X.N.Nodup) (hi : w.X.N[i]? = some x := by kernel_rfl) (hx : L2.Loc w.X.env.scope x := by first | exact Or.inl rfl | exact Or.inr rfl) (hl : i < ρ.length := by exact Nat.le_of_ble_eq_true rfl)
    (hf : w.X.fn x = true ∨ w.X.env.scope.names.lookup x = some .local := by first | exact .inl rfl | exact .inr rfl)
    (s1 : swapsWithSole [(.Name x px)] e pos.line w.X.env = pure false := by kernel_rfl) (s2 : swappedStores [(.Name x px)] e w.X.env = pure none := by kernel_rfl) (s3 : List.map (fun x => x.snd) (assignEach [(.Name x px)] w.X.env) = [assign (.Name x px) w.X.env] := by kernel_rfl) :
    Sx w (.Assign [.Name x px] e pos) ρ c (.nx (ρ.set i (some (.ow ds))) c1) := fun hw Z σ H ⟨L, oo, E, z⟩ D q =>
  wS_of (ps_asg pe_w (pg_name hN hi hx hf) s1 s2 s3) (h hw.k L σ H oo E _ fun p xs H1 hp s1 o1 h1 r1 => q _ H1 (At.putN oo E z hp s1 o1 h1 r1 hl))
/-- own list to data: nothing more is done to it -/
theorem At.freeze {F : Fx} {Z : Hp} {σ : L2.St} {H : Hp} (i : Nat) (h : At F Z ρ c σ H) (hi : ρ[i]? = some (some (.ow ds))) : At F Z (ρ.set i (some (.fr (.lst ds)))) c σ H := by
  obtain ⟨L, oo, E, z⟩ := h
  obtain ⟨p, xs, h1, h2, h3, h4, h5⟩ := E.ow i ds hi
  have hil : i < ρ.length := (List.getElem?_eq_some_iff.mp hi).1
  have sub : ∀ a ∈ L.erase p ++ F.S0, a ∈ L ++ F.S0 := fun a ha => by
    rcases List.mem_append.mp ha with q | q
    · exact List.mem_append_left _ (List.mem_of_mem_erase q)
    · exact List.mem_append_right _ q
  have np : p ∉ L.erase p ++ F.S0 := fun q => by
    rcases List.mem_append.mp q with q | q
    · exact (List.Nodup.not_mem_erase oo.ndL) q
    · exact oo.s0 p q (oo.own p h2)
  refine ⟨L.erase p, ⟨oo.jS, oo.s0, oo.jc, fun a ha => oo.tr a (sub a ha), oo.tb, oo.st, fun a ha => oo.own a (List.mem_of_mem_erase ha), oo.ndL.erase p⟩, ⟨by rw [List.length_set]; exact E.len, fun k d' q => ?_, fun k es q => ?_, fun a b as bs q z1 z2 e1 e2 => ?_⟩, fun a u q t => ?_⟩
  · by_cases hk : k = i
    · subst hk
      rw [List.getElem?_set_self hil] at q
      cases q
      exact ⟨_, h1, .lst (by rw [off_eq np]; exact h4) (h5.sub sub)⟩
    · rw [List.getElem?_set_ne (Ne.symm hk)] at q
      obtain ⟨v, e1, e2⟩ := E.fr k d' q
      exact ⟨v, e1, e2.sub sub⟩
  · by_cases hk : k = i
    · subst hk
      rw [List.getElem?_set_self hil] at q
      cases q
    · rw [List.getElem?_set_ne (Ne.symm hk)] at q
      obtain ⟨p', ys, e1, e2, e3, e4, e5⟩ := E.ow k es q
      have ne : p' ≠ p := fun z => hk (E.one k i es ds p q hi (by rw [← z]; exact e1) h1)
      exact ⟨p', ys, e1, (List.mem_erase_of_ne ne).mpr e2, e3, e4, e5.sub sub⟩
  · have ha : a ≠ i := fun y => by
      subst y
      rw [List.getElem?_set_self hil] at z1
      cases z1
    have hb : b ≠ i := fun y => by
      subst y
      rw [List.getElem?_set_self hil] at z2
      cases z2
    rw [List.getElem?_set_ne (Ne.symm ha)] at z1
    rw [List.getElem?_set_ne (Ne.symm hb)] at z2
    exact E.one a b as bs q z1 z2 e1 e2
  · exact off_sub sub a u (z a u q t) t
theorem sxs_freeze (i : Nat) (hi : ρ[i]? = some (some (.ow ds))) (h : Sxs w sts (ρ.set i (some (.fr (.lst ds)))) c o) : Sxs w sts ρ c o := fun hw Z σ H a D q => h hw Z σ H (a.freeze i hi) D q
theorem sx_freeze (i : Nat) (hi : ρ[i]? = some (some (.ow ds))) (h : Sx w st (ρ.set i (some (.fr (.lst ds)))) c o) : Sx w st ρ c o := fun hw Z σ H a D q => h hw Z σ H (a.freeze i hi) D q
/-- an own list is written -/
theorem At.write {F : Fx} {Z : Hp} {L : List Addr} {σ : L2.St} {H : Hp} {i : Nat} {p : Addr} {xs ys : List V} (oo : Ok F L c H) (E : Env F L ρ σ H) (z : Kept F Z L H) (hi : ρ[i]? = some (some (.ow ds))) (h1 : σ[i]? = some (some (V.ref p))) (h2 : p ∈ L) (h3 : p ≠ F.j) (h4 : H p = some (.lst xs)) (r : Reps F.K F.j (off (L ++ F.S0) H) ys es) :
    At F Z (ρ.set i (some (.ow es))) c σ (upd H p (.lst ys)) := by
  have hil : i < ρ.length := (List.getElem?_eq_some_iff.mp hi).1
  have mS : p ∈ L ++ F.S0 := List.mem_append_left _ h2
  refine ⟨L, oo.write h2 h4 h3, ⟨by rw [List.length_set]; exact E.len, fun k d' q => ?_, fun k es' q => ?_, fun a b as bs q z1 z2 e1 e2 => ?_⟩, fun a u q t => off_write mS a u (z a u q t) t⟩
  · have hk : k ≠ i := fun y => by
      subst y
      rw [List.getElem?_set_self hil] at q
      cases q
    rw [List.getElem?_set_ne (Ne.symm hk)] at q
    obtain ⟨v, e1, e2⟩ := E.fr k d' q
    exact ⟨v, e1, e2.mono (off_write mS)⟩
  · by_cases hk : k = i
    · subst hk
      rw [List.getElem?_set_self hil] at q
      cases q
      exact ⟨p, ys, h1, h2, h3, upd_same, r.mono (off_write mS)⟩
    · rw [List.getElem?_set_ne (Ne.symm hk)] at q
      obtain ⟨p', us, e1, e2, e3, e4, e5⟩ := E.ow k es' q
      have ne : p' ≠ p := fun y => hk (E.one k i es' ds p q hi (by rw [← y]; exact e1) h1)
      exact ⟨p', us, e1, e2, e3, by rw [upd_ne ne]; exact e4, e5.mono (off_write mS)⟩
  · have key : ∀ {k : Nat} {as : List D}, (ρ.set i (some (.ow es)))[k]? = some (some (Sl.ow as)) → ∃ as', ρ[k]? = some (some (Sl.ow as')) := fun {k as} y => by
      by_cases hk : k = i
      · subst hk
        exact ⟨ds, hi⟩
      · rw [List.getElem?_set_ne (Ne.symm hk)] at y
        exact ⟨as, y⟩
    obtain ⟨as', y1⟩ := key z1
    obtain ⟨bs', y2⟩ := key z2
    exact E.one a b as' bs' q y1 y2 e1 e2
theorem sx_append (i : Nat) {apos : Pos} (hi : ρ[i]? = some (some (.ow ds))) (h : Ev w.X w.F e ρ c d c1) (hz : ds.length < sizeLine) (hN : w.X.N[i]? = some x := by kernel_rfl) (hv : Vis w.X.env.scope x := by first | exact Or.inl rfl | exact Or.inr (Or.inl rfl) | exact Or.inr (Or.inr rfl)) (hdb : (x == ("__debug__" : Str)) = false := by kernel_rfl)
    (hcd : (x == ("__classdict__" : Str)) = false := by kernel_rfl) {pos2 : Pos} (hb : attributeBase (.Name x px) "append" w.X.env (eval (.Name x px) w.X.env) = eval (.Name x px) w.X.env := by kernel_rfl)
    (h4 : (((backTo pos (starEach [e] w.X.env)).all fun x => !x.1) && (backToKw pos (keywordEach [] w.X.env)).all (fun x => x.1.isSome) && decide ([e].length + ([] : List Keyword).length + (if ([] : List Keyword).isEmpty = true then 0 else 1) < 30)) = true := by kernel_rfl) (h5 : (apos.endLine == pos.line) = true := by kernel_rfl)
    (he : starEach [e] w.X.env = (false, eval e w.X.env) :: starEach [] w.X.env := by kernel_rfl) (hs : swapsWith (.Call (.Attribute (.Name x px) "append" apos) [e] [] pos) none pos2.line w.X.env = pure false := by kernel_rfl) :
    Sx w (.Expr (.Call (.Attribute (.Name x px) "append" apos) [e] [] pos) pos2) ρ c (.nx (ρ.set i (some (.ow (ds ++ [d])))) c1) := fun hw Z σ H ⟨L, oo, E, z⟩ D q => by
  obtain ⟨p, xs, h1, h2, h3, h4', h5'⟩ := E.ow i ds hi
  refine wS_of (ps_expr (pe_bm PySem.F.plainAttrs_list PySem.F.slot_list_append PySem.F.type_list_append mt_append (pe_var hN hv hdb hcd) (pa_cons pe_w pa_nil he) hb h4 h5 he rfl) hs) ?_
  refine ⟨_, h1, .inl ⟨rfl, xs, SqL.of h4'⟩, h hw.k L σ H oo E _ fun v H1 s1 o1 r1 => ?_⟩
  have h6 : H1 p = some (.lst xs) := s1.keep p _ h3 h4' (fun ps => by intro q; cases q)
  refine ⟨p, xs, v, rfl, rfl, h6, by rw [h5'.length]; exact hz, ?_⟩
  exact q σ _ (At.write o1 (E.step oo.jL s1) (z.stp oo.jL s1) hi h1 h2 h3 h6 ((h5'.stp oo.jL s1).append (.cons r1 .nil)))
theorem sx_extend (i : Nat) {apos : Pos} (hi : ρ[i]? = some (some (.ow ds))) (h : EvL w.X w.F e ρ c (.lst es) c1) (hz : ds.length + es.length ≤ sizeLine) (hN : w.X.N[i]? = some x := by kernel_rfl) (hv : Vis w.X.env.scope x := by first | exact Or.inl rfl | exact Or.inr (Or.inl rfl) | exact Or.inr (Or.inr rfl)) (hdb : (x == ("__debug__" : Str)) = false := by kernel_rfl)
    (hcd : (x == ("__classdict__" : Str)) = false := by kernel_rfl) {pos2 : Pos} (hb : attributeBase (.Name x px) "extend" w.X.env (eval (.Name x px) w.X.env) = eval (.Name x px) w.X.env := by kernel_rfl)
    (h4 : (((backTo pos (starEach [e] w.X.env)).all fun x => !x.1) && (backToKw pos (keywordEach [] w.X.env)).all (fun x => x.1.isSome) && decide ([e].length + ([] : List Keyword).length + (if ([] : List Keyword).isEmpty = true then 0 else 1) < 30)) = true := by kernel_rfl) (h5 : (apos.endLine == pos.line) = true := by kernel_rfl)
    (he : starEach [e] w.X.env = (false, eval e w.X.env) :: starEach [] w.X.env := by kernel_rfl) (hs : swapsWith (.Call (.Attribute (.Name x px) "extend" apos) [e] [] pos) none pos2.line w.X.env = pure false := by kernel_rfl) :
    Sx w (.Expr (.Call (.Attribute (.Name x px) "extend" apos) [e] [] pos) pos2) ρ c (.nx (ρ.set i (some (.ow (ds ++ es)))) c1) := fun hw Z σ H ⟨L, oo, E, z⟩ D q => by
  obtain ⟨p, xs, h1, h2, h3, h4', h5'⟩ := E.ow i ds hi
  refine wS_of (ps_expr (pe_bm PySem.F.plainAttrs_list PySem.F.slot_list_extend PySem.F.type_list_extend mt_extend (pe_var hN hv hdb hcd) (pa_cons pe_w pa_nil he) hb h4 h5 he rfl) hs) ?_
  refine ⟨_, h1, .inl ⟨rfl, xs, SqL.of h4'⟩, h hw.k L σ H oo E _ fun v H1 s1 o1 r1 => ?_⟩
  have h6 : H1 p = some (.lst xs) := s1.keep p _ h3 h4' (fun ps => by intro q; cases q)
  obtain ⟨b, ys, e1, e2, e3⟩ := r1.lstH
  refine ⟨p, b, xs, ys, rfl, by rw [e1], h6, e2, by rw [h5'.length, e3.length]; exact hz, ?_⟩
  exact q σ _ (At.write o1 (E.step oo.jL s1) (z.stp oo.jL s1) hi h1 h2 h3 h6 ((h5'.stp oo.jL s1).append e3))
/-- x = [.. for ..] -/
theorem sx_setLc (i : Nat) {tg iter elt : Expr} {ifs : List Expr} {scope : Scope} {own : List (Str × Nat)} {wi : TI} {g : TG} {spos : Pos} (hi : PI w.X tg iter wi) (hr : w.X.K = w.F.K → LcRun w.X w.F wi g (wBT w.X scope ifs) (wBV w.X scope elt) (own.map (·.2)) ρ c es c1) (hl : ifs.length ≤ 1) (ok : blkC w.X.N w.X.env.scope scope own = true)
    (hg : ∀ (s : Shared) (H : Hp) (C : Addr) (cl : List (Str × Addr)) (fp : List Addr), PG (w.X.blk s H scope (compEnvC scope cl C w.X.env) fp) tg g) (hN : w.X.N.Nodup) (hy : w.X.N[i]? = some x) (hx : w.X.env.scope.names.lookup x = some .local) (hil : i < ρ.length)
    (sw : swapsWith (.ListComp elt [⟨tg, iter, ifs, 0⟩] scope pos) (some (.Name x px)) spos.line w.X.env = pure true) (hc : w.X.calm = true := by kernel_rfl) (hs : ∀ x, foldedSetIterable iter w.X.env x = pure x := by intro _; kernel_rfl) :
    Sx w (.Assign [.Name x px] (.ListComp elt [⟨tg, iter, ifs, 0⟩] scope pos) spos) ρ c (.nx (ρ.set i (some (.ow es))) c1) := fun hw Z σ H ⟨L, oo, E, z⟩ D q =>
  wS_of (ps_setLc (i := i) hc hN hy hx sw hi (blkOk_by ok) hg (pts_bt hl) pe_bv hs) (hr hw.k L σ H oo E _ fun p xs H1 hp s1 o1 h1 r1 => q _ H1 (At.putN oo E z hp s1 o1 h1 r1 hil))
end
end Fh
end
section
set_option Elab.async false
set_option linter.all false
set_option maxRecDepth 100000
set_option maxHeartbeats 2000000
/-! Statements: several targets, the jar is set, errors raised and caught. -/
namespace Fh
open PySem PySem.Spec PyProof.Rows L2
section
variable {w : Wh} {ρ ρ1 : Rho} {c c1 c2 : HO} {d d1 d2 : D} {ds es : List D} {st : Stmt} {rest sts : List Stmt} {o : Out} {e ea eb : Expr} {els : List Expr} {pos : Pos} {x y : Str} {px py pt : Pos}
/-- a, b = e; for a target of known things -/
theorem sx_asg {g : TG} {tg : Expr} (hg : PG w.X tg g) (h : Ev w.X w.F e ρ c d c1) (hb : BindD w.F g d ρ ρ1) (s1 : swapsWithSole [tg] e pos.line w.X.env = pure false := by kernel_rfl) (s2 : swappedStores [tg] e w.X.env = pure none := by kernel_rfl) (s3 : List.map (fun x => x.snd) (assignEach [tg] w.X.env) = [assign tg w.X.env] := by kernel_rfl) :
    Sx w (.Assign [tg] e pos) ρ c (.nx ρ1 c1) := fun hw Z σ H ⟨L, oo, E, z⟩ D q =>
  wS_of (ps_asg pe_w hg s1 s2 s3) (h hw.k L σ H oo E _ fun v H1 s1 o1 r1 => hb L c1 σ H1 v o1 (E.step oo.jL s1) r1 _ fun σ' E' => q σ' H1 ⟨L, o1, E', z.stp oo.jL s1⟩)
/-- x, y = a, b -/
theorem sx_par (i j : Nat) {kt k2 : Nat} {pt2 : Pos} (ha : Ev w.X w.F ea ρ c d1 c1) (hb : Ev w.X w.F eb ρ c1 d2 c2) (hN : w.X.N.Nodup) (hi : w.X.N[i]? = some x) (hj : w.X.N[j]? = some y) (hij : i ≠ j) (hx : w.X.env.scope.names.lookup x = some .local) (hy : w.X.env.scope.names.lookup y = some .local) (hil : i < ρ.length) (hjl : j < ρ.length)
    (hs : swappedStores [.Tuple [.Name x px, .Name y py] kt pt] (.Tuple [ea, eb] k2 pt2) w.X.env = pure (some [x, y])) (hc : w.X.calm = true := by kernel_rfl) (he : starEach [ea, eb] w.X.env = (false, eval ea w.X.env) :: starEach [eb] w.X.env := by kernel_rfl) (he2 : starEach [eb] w.X.env = (false, eval eb w.X.env) :: starEach [] w.X.env := by kernel_rfl)
    (sw : swapsWithSole [.Tuple [.Name x px, .Name y py] kt pt] (.Tuple [ea, eb] k2 pt2) pos.line w.X.env = pure false := by kernel_rfl) :
    Sx w (.Assign [.Tuple [.Name x px, .Name y py] kt pt] (.Tuple [ea, eb] k2 pt2) pos) ρ c (.nx ((ρ.set i (some (.fr d1))).set j (some (.fr d2))) c2) := fun hw Z σ H ⟨L, oo, E, z⟩ D q =>
  wS_of (ps_par hc hN hi hj hij hx hy (pa_cons pe_w (pa_cons pe_w pa_nil he2) he) hs sw) (ha hw.k L σ H oo E _ fun v H1 s1 o1 r1 => hb hw.k L σ H1 o1 (E.step oo.jL s1) _ fun v2 H2 s2 o2 r2 => by
    have s12 := s1.trans s2
    exact ⟨v, v2, rfl, q _ H2 ⟨L, o2, ((E.step oo.jL s12).put (r1.stp o1.jL s2) hil).put r2 (by rw [List.length_set]; exact hjl), z.stp oo.jL s12⟩⟩)
/-- x, y, z = a, b, c -/
theorem sx_par3 (i j l : Nat) {x y z : Str} {ea eb ec : Expr} {px py pz pt pos : Pos} {ρ : Rho} {c c1 c2 c3 : HO} {d1 d2 d3 : D} {kt k2 : Nat} {pt2 : Pos} (ha : Ev w.X w.F ea ρ c d1 c1) (hb : Ev w.X w.F eb ρ c1 d2 c2) (hd : Ev w.X w.F ec ρ c2 d3 c3) (hN : w.X.N.Nodup) (hi : w.X.N[i]? = some x) (hj : w.X.N[j]? = some y) (hl : w.X.N[l]? = some z) (hij : i ≠ j) (hil : i ≠ l) (hjl : j ≠ l)
    (hx : w.X.env.scope.names.lookup x = some .local) (hy : w.X.env.scope.names.lookup y = some .local) (hz : w.X.env.scope.names.lookup z = some .local) (li : i < ρ.length) (lj : j < ρ.length) (ll : l < ρ.length)
    (hs : swappedStores [.Tuple [.Name x px, .Name y py, .Name z pz] kt pt] (.Tuple [ea, eb, ec] k2 pt2) w.X.env = pure (some [x, y, z])) (hc : w.X.calm = true) (he : starEach [ea, eb, ec] w.X.env = (false, eval ea w.X.env) :: starEach [eb, ec] w.X.env) (he2 : starEach [eb, ec] w.X.env = (false, eval eb w.X.env) :: starEach [ec] w.X.env) (he3 : starEach [ec] w.X.env = (false, eval ec w.X.env) :: starEach [] w.X.env) :
    Sx w (.Assign [.Tuple [.Name x px, .Name y py, .Name z pz] kt pt] (.Tuple [ea, eb, ec] k2 pt2) pos) ρ c (.nx (((ρ.set i (some (.fr d1))).set j (some (.fr d2))).set l (some (.fr d3))) c3) := fun hw Z σ H ⟨L, oo, E, z⟩ D q =>
  wS_of (ps_par3 hc hN hi hj hl hij hil hjl hx hy hz (pa_cons pe_w (pa_cons pe_w (pa_cons pe_w pa_nil he3) he2) he) hs rfl) (ha hw.k L σ H oo E _ fun v H1 s1 o1 r1 => hb hw.k L σ H1 o1 (E.step oo.jL s1) _ fun v2 H2 s2 o2 r2 => hd hw.k L σ H2 o2 ((E.step oo.jL s1).step o1.jL s2) _ fun v3 H3 s3 o3 r3 => by
    have s12 := s1.trans s2
    have s123 := s12.trans s3
    exact ⟨v, v2, v3, rfl, q _ H3 ⟨L, o3, (((E.step oo.jL s123).put ((r1.stp o1.jL s2).stp o2.jL s3) li).put (r2.stp o2.jL s3) (by rw [List.length_set]; exact lj)).put r3 (by rw [List.length_set, List.length_set]; exact ll), z.stp oo.jL s123⟩⟩)
/-- x, y = [..], b: x a new list of the body's own -/
theorem sx_parN (i j : Nat) {kt k2 : Nat} {pt2 : Pos} (ha : EvN w.X w.F ea ρ c ds c1) (hb : Ev w.X w.F eb ρ c1 d2 c2) (hN : w.X.N.Nodup) (hi : w.X.N[i]? = some x) (hj : w.X.N[j]? = some y) (hij : i ≠ j) (hx : w.X.env.scope.names.lookup x = some .local) (hy : w.X.env.scope.names.lookup y = some .local) (hil : i < ρ.length) (hjl : j < ρ.length)
    (hs : swappedStores [.Tuple [.Name x px, .Name y py] kt pt] (.Tuple [ea, eb] k2 pt2) w.X.env = pure (some [x, y])) (hc : w.X.calm = true := by kernel_rfl) (he : starEach [ea, eb] w.X.env = (false, eval ea w.X.env) :: starEach [eb] w.X.env := by kernel_rfl) (he2 : starEach [eb] w.X.env = (false, eval eb w.X.env) :: starEach [] w.X.env := by kernel_rfl)
    (sw : swapsWithSole [.Tuple [.Name x px, .Name y py] kt pt] (.Tuple [ea, eb] k2 pt2) pos.line w.X.env = pure false := by kernel_rfl) :
    Sx w (.Assign [.Tuple [.Name x px, .Name y py] kt pt] (.Tuple [ea, eb] k2 pt2) pos) ρ c (.nx ((ρ.set i (some (.ow ds))).set j (some (.fr d2))) c2) := fun hw Z σ H ⟨L, oo, E, z⟩ D q =>
  wS_of (ps_par hc hN hi hj hij hx hy (pa_cons pe_w (pa_cons pe_w pa_nil he2) he) hs sw) (ha hw.k L σ H oo E _ fun p xs H1 hp s1 o1 h1 r1 => by
    have E1 := E.more oo.jL hp s1
    refine hb hw.k (p :: L) σ H1 o1 E1 _ fun v2 H2 s2 o2 r2 => ?_
    have nj : p ≠ w.F.j := fun q => o1.j0 (by rw [← q]; exact o1.own p List.mem_cons_self)
    have s12 := s1.trans s2
    have h2 := s2.keep p _ nj h1 (fun ps => by intro z; cases z)
    refine ⟨.ref p, v2, rfl, q _ H2 ⟨p :: L, o2, ?_, (z.more oo.jL hp s1).stp o1.jL s2⟩⟩
    exact ((E1.step o1.jL s2).putN (own_not E fun q => oo.np hp (List.mem_append_left _ q)) h2 nj (r1.stp o1.jL s2) hil).put r2 (by rw [List.length_set]; exact hjl))
/-- jar[0] = e, jar[1] = e -/
theorem tabs_jar {T : List (Addr × Str)} {H : Hp} {p : Addr} {o u : HO} (h : LamX.Tabs T H) (hx : H p = some u) (hu : ∀ ps, u ≠ .tbl ps) (hu2 : ∀ φ, u ≠ .ext φ) : LamX.Tabs T (upd H p o) := fun q hq => by
  obtain ⟨ps, h1, h2, h3⟩ := h q hq
  refine ⟨ps, by rw [upd_ne (ne_of h1 hx (fun z => hu ps z.symm))]; exact h1, h2, fun pos cv hc => ?_⟩
  obtain ⟨cc, e1, e2⟩ := h3 pos cv hc
  refine ⟨cc, e1, ?_⟩
  rw [upd_ne (ne_of e2 hx (fun z => hu2 _ (by rw [← z] <;> rfl)))]
  exact e2
theorem Ok.jar {F : Fx} {L : List Addr} {H : Hp} {xs ys : List V} (o : Ok F L (.lst xs) H) : Ok F L (.lst ys) (upd H F.j (.lst ys)) ∧ Stp F.j H (upd H F.j (.lst ys)) := by
  have s : Stp F.j H (upd H F.j (.lst ys)) := ⟨fun a u n e t => by rw [upd_ne n]; exact e, fun a e => by
    by_cases z : a = F.j
    · rw [z, upd_same] at e; cases e
    · rw [upd_ne z] at e; exact e⟩
  exact ⟨o.step s upd_same (fun ps => by intro z; cases z) (tabs_jar o.tb o.jc (fun ps => by intro z; cases z) (fun φ => by intro z; cases z)), s⟩
theorem sx_jar {a b k : Int} {eo ei : Expr} {spos : Pos} {m : Nat} (hm : m = 0 ∨ m = 1) (he : Ev w.X w.F e ρ c (.int k) c1) (ho : Ev w.X w.F eo ρ c1 .jar c1) (hi : Ev w.X w.F ei ρ c1 (.int (m : Int)) c1) (hc1 : c1 = J a b)
    (has : ∀ v : Value, assign (.Subscript eo ei spos) w.X.env v = (do
      let ov ← holding [v] (eval eo w.X.env)
      let iv ← holding [v, ov] (eval ei w.X.env)
      standAt spos
      holding [v, ov, iv] (setItem ov iv v)
      release [v, ov, iv] []) := by exact fun _ => rfl)
    (s1 : swapsWithSole [.Subscript eo ei spos] e pos.line w.X.env = pure false := by kernel_rfl) (s2 : swappedStores [.Subscript eo ei spos] e w.X.env = pure none := by kernel_rfl) (s3 : List.map (fun x => x.snd) (assignEach [.Subscript eo ei spos] w.X.env) = [assign (.Subscript eo ei spos) w.X.env] := by kernel_rfl) :
    Sx w (.Assign [.Subscript eo ei spos] e pos) ρ c (.nx ρ (if m = 0 then J k b else J a k)) := fun hw Z σ H ⟨L, oo, E, z⟩ D q => by
  refine wS_of (ps_asg pe_w (pg_sub pe_w pe_w set_list has) s1 s2 s3) ?_
  refine he hw.k L σ H oo E _ fun v H1 t1 o1 r1 => ho hw.k L σ H1 o1 (E.step oo.jL t1) _ fun v2 H2 t2 o2 r2 => hi hw.k L σ H2 o2 ((E.step oo.jL t1).step o1.jL t2) _ fun v3 H3 t3 o3 r3 => ?_
  cases r1
  cases r3
  have e2 : v2 = .ref w.F.j := by cases r2; rfl
  subst hc1
  have E3 := ((E.step oo.jL t1).step o1.jL t2).step o2.jL t3
  have z3 := ((z.stp oo.jL t1).stp o1.jL t2).stp o2.jL t3
  obtain ⟨o4, t4⟩ := o3.jar (ys := if m = 0 then [.int k, .int b] else [.int a, .int k])
  refine ⟨w.F.j, _, (m : Int), m, e2, rfl, o3.jc, ?_, ?_⟩
  · rcases hm with rfl | rfl <;> rfl
  · have e5 : HO.lst (List.set [V.int a, V.int b] m (V.int k)) = (if m = 0 then J k b else J a k) := by rcases hm with rfl | rfl <;> rfl
    have e6 : HO.lst (if m = 0 then [V.int k, V.int b] else [V.int a, V.int k]) = (if m = 0 then J k b else J a k) := by rcases hm with rfl | rfl <;> rfl
    rw [e6] at o4 t4
    show D.nx σ (upd H3 w.F.j (.lst (List.set [V.int a, V.int b] m (V.int k))))
    rw [e5]
    exact q σ _ ⟨L, o4, E3.step o3.jL t4, z3.stp o3.jL t4⟩
theorem ps_nox {X : Cx} {st : Stmt} {t : TS} (h : PS X.nox st t) : PS X st t := ⟨fun pins s σ H D I hw =>
  wpAny_mono (h.run pins s σ H D (I.wish _) hw) (fun _ _ q => q.unwish) fun _ _ z => False.elim z⟩
/-- in a context that no error leaves -/
theorem sx_nox (h : Sx ⟨w.X.nox, w.F, fun _ _ _ _ => False, w.C⟩ st ρ c o) (ho : ∀ k d c, o ≠ .exn k d c) : Sx w st ρ c o := fun hw Z σ H a D q => by
  have h' := h ⟨hw.k, takesN0⟩ Z σ H a D (by
    cases o with
    | nx ρ c => exact q
    | ret d c => exact q
    | brk ρ c => exact q
    | ct ρ c => exact q
    | exn k d c => exact absurd rfl (ho k d c))
  exact wS_of (ps_nox (X := w.X) (t := wS w.X.nox st) ps_w) h'
end
end Fh
end
section
set_option Elab.async false
set_option linter.all false
set_option maxRecDepth 100000
set_option maxHeartbeats 2000000
/-! An error of one's own is made; its context is None. -/
namespace Fh
open PySem PySem.Spec PyProof.Rows L2
section
variable {X : Cx} {e : Expr} {es : List Expr} {ta : TA} {p pos : Pos}
theorem mkNew {CX : CXT} {x : Str} {C fI : Addr} {k : Nat} {fd : FuncData} {ps : List Str} {sp : Sp} (T : OexC X.K C) (hI : PySem.W.findIn X.K (.ref C) "__init__" = some (some (.ref fI)))
    (hT : PySem.W.typeIn X.K (.ref fI) = some (.type "function")) (Fi : FnOk X.prog X.w X.K X.mg X.base CX k fI fd ps sp) (room : Room (k + 1) X.A) (bd : Binds X.K fd ps [])
    (ho : Passes CX X (fun _ _ _ => False)) (hg : Gl X x) (gC : X.mg x = some (.ref C)) (args : PA X (e :: es) ta)
    (h1 : (x == ("__debug__" : Str)) = false) (h2 : starEach (e :: es) X.env = (false, eval e X.env) :: starEach es X.env) (h3 : (backTo pos (starEach es X.env)).any (·.1) = false) :
    L2N.PMk X (.Call (.Name x p) (e :: es) [] pos) (tMkO C sp [] ta) := fun pins s σ H Q I h => by
  obtain ⟨nm, q, N, bs, bm, sn, sub, ab, col, dd, k0, k1, k2, k3, k5, clsC, clsB⟩ := T.cls
  refine wpAny_Call_Name_kw (ld_glob I hg gC ?_ h1)
  refine PySem.W.callWith_K (h₀ := X.base) I.ok.mod.kin T.kC (thn (args.run pos pins s σ H _ I h) fun us t1 ⟨vs, G1, J1, rv, hz, hq1⟩ => ⟨J1.kIn, ?_⟩) h2 h3
  show wpAny _ _ (call (.ref C) us) _ _ _
  obtain ⟨hp, g, dr, tk, os⟩ := t1
  have up1 : hp.objs.size ≤ hp.objs.size + 1 := Nat.le_succ _
  have fr1 : G1 (hp.objs.size + 1) = none := J1.hok.fresh up1
  have want := hq1 (hp.objs.size + 1) fr1
  rw [List.append_nil] at want
  have kept : ∀ b o, hp.get? b = some o → ((hp.push (PySem.W.kdv_tup us)).push (PySem.HandSPX.excO C hp.objs.size)).get? b = some o := fun b o z =>
    Heap.get?_push_of_some _ (Heap.get?_push_of_some _ z)
  have atE : ((hp.push (PySem.W.kdv_tup us)).push (PySem.HandSPX.excO C hp.objs.size)).get? (hp.objs.size + 1) = some (PySem.HandSPX.excO C hp.objs.size) := by
    heap_get
  have J2 : Inv X pins σ (upd G1 (hp.objs.size + 1) (exo (hp.objs.size + 1) C none)) ⟨(hp.push (PySem.W.kdv_tup us)).push (PySem.HandSPX.excO C hp.objs.size), g, dr, tk, os⟩ :=
    J1.laid (t' := tk) (a := hp.objs.size + 1) (o := exo (hp.objs.size + 1) C none)
      (h' := (hp.push (PySem.W.kdv_tup us)).push (PySem.HandSPX.excO C hp.objs.size)) kept up1 (exo_ok atE)
  have rv2 : Vals (V.ref (hp.objs.size + 1) :: vs) (Value.ref (hp.objs.size + 1) :: us) := .cons rfl rv
  have len2 : (Value.ref (hp.objs.size + 1) :: us ++ []).length = ps.length := by
    have z := rv2.length
    rw [Fi.len _ _ _ _ want] at z
    rw [List.append_nil]
    exact z.symm
  have few : us.length ≤ sizeLine := by
    rw [← Paired.length rv, sizeLine_eq]
    omega
  have bz := bd _ (Value.ref (hp.objs.size + 1) :: us) J2.kIn len2
  rw [List.append_nil] at bz
  refine wpAny_call (PySem.HandSPX.call_own F.excBase_ValueError (fun Y => PySem.HandSPX.refsVE_contains Y bm clsB) (J1.kIn _ _ clsC) (PySem.W.looks_findIn J1.kIn hI)
    (fun self => PySem.W.bind_fn J1.kIn self hT) few (codeAny_mono (Fi.run _ X.stack _ _ ⟨Value.ref (hp.objs.size + 1) :: us, []⟩
      (Value.ref (hp.objs.size + 1) :: us) _ _ (fun _ _ _ => False) (room.make C us []) (J2.env0.make C us []) bz rv2 want) fun r s' z => ?_))
  cases r with
  | error er => exact ho pins σ _ _ er s' J2 z
  | ok fl =>
    cases fl with
    | ret u =>
      obtain ⟨v, G2, os2, bare2, un2, ok2, rv', ev, d, fs, ea, ed, dn, q2⟩ := z
      subst ev
      obtain ⟨h2, g2, d2, t2, os'⟩ := s'
      obtain ⟨t0, G, J, kG, gone, there, na⟩ := mk_end0 (d2 := d2) (t2 := t2) J1 up1 kept un2 ok2 os2 bare2 ea ed dn
      refine ⟨rv', ⟨hp.objs.size + 1, _, _, ⟨G, g2, d2, t2, os'⟩, _, .ref C, some d, rfl, J, kG, gone, there, ⟨rfl, rfl, ?_⟩, rfl, rfl, na, rfl, bare2, raises_own T.exC T.tyC, q2⟩⟩
      intro vs hv
      cases hv
      rfl
    | next => exact False.elim z
    | brk => exact False.elim z
    | cont => exact False.elim z
end
end Fh
end
section
set_option Elab.async false
set_option linter.all false
set_option maxRecDepth 100000
set_option maxHeartbeats 2000000
/-! self.__class__.__name__, self an error that is being made. -/
namespace Fcn
open PySem PySem.W PySem.Calls PyProof.Rows Builtin Builtin.ObjectAttr Builtin.Getset_descriptor
section
variable {prog : Program} {w : World} {A : Around} {E : Value → Shared → Prop} {s : Shared} {K : Frag} {x C : Addr} {R : Result → Shared → Prop} {ox : Obj} {od : Option Obj}
theorem cname_get {o : Obj} {v tp : Value} (X : K.In s.heap) (ho : K.lookup C = some o) (hc : o.cls = .type "type") (hs : (o.slots[2]?).join = some v) (h : R (.ok (.ret v)) s) :
    codeAny (model prog w) A (.call (.builtin "getset_descriptor.__get__") ⟨[.builtin "type.__name__", .ref C, tp], []⟩) R s := by
  obtain ⟨hh, g, dr, t, os⟩ := s
  have L0 : Looks (model prog w) hh (typeOf (.ref C)) (.type "type") := looks_typeIn X (by show (K.lookup C).map (·.cls) = _; rw [ho]; exact congrArg some hc)
  have L1 : Looks (model prog w) hh (isSubtype (.type "type") (.type "type")) true := Looks.of_pure (by rw [isSubtype_type]; kernel_rfl)
  have hx := X _ _ ho
  refine codeAny_call_builtin KF.slot_gs.plain KF.entry_gs (KF.slot_gs.check _ _ _ _ _ _ _ _ ktyn_type (KF.args_gs _ _ _) ?_)
  unfold Builtin.«getset_descriptor.__get__» descrGet
  rw [dga_obj]
  refine wpAny_bind (wpAny_pure ?_)
  unfold descrGetter descrCheckInstance descrNameAndClass isInstance
  simp only [ktyn_owner]
  repeat lk
  refine ⟨Code.quiet_builtin _ (by decide +kernel), codeAny_builtin ktyn_entry ?_⟩
  unfold Builtin.«type.__name__» keptObject
  dsimp only
  refine wpAny_bind (wpAny_bind (wpAny_loadPart hx (wpAny_pure ?_)))
  rw [hs]
  exact wpAny_pure h
theorem cls_name {o : Obj} {nm : Str} {tk : Tok} {expr : Bool} {Q : Value → Shared → Prop} (X : K.In s.heap) (hr : readsIn K C (.type "type") = true)
    (e : findCls K (.ref C) (.type "type") "__name__" = some (.get (.builtin "getset_descriptor.__get__") (.builtin "type.__name__") (.ref C) (.type "type")))
    (ho : K.lookup C = some o) (hc : o.cls = .type "type") (hs : (o.slots[2]?).join = some (.str nm tk)) (h : Q (.str nm tk) { s with toks := s.toks + 1 }) : wpAny (model prog w) A (getAttr (.ref C) "__name__" expr) Q E s :=
  cls_bind X hr e (wpAny_call (cname_get (s := { s with toks := s.toks + 1 }) X ho hc hs (handed_on rfl h)))
theorem exc_class {expr : Bool} {Q : Value → Shared → Prop} (T : L2.ExcC K C) (hf : findObj K C od "__class__" = some (.bind (.builtin "getset_descriptor.__get__") (.builtin "object.__class__")))
    (X : K.In s.heap) (I : InstAt s.heap x ox C od) (h : Q (.ref C) { s with toks := s.toks + 1 }) : wpAny (model prog w) A (getAttr (.ref x) "__class__" expr) Q E s := by
  obtain ⟨hp, g, d, t, os⟩ := s
  have L0 := I.type (M := model prog w)
  have L1 := looks_findIn (M := model prog w) X T.hg
  have L2 := looks_findIn (M := model prog w) X T.hk
  have L3 := looks_find (M := model prog w) X I hf
  have sub : Looks (model prog w) hp (isInstance (.ref x) (.type "BaseException")) true := L0.andThen (looks_subIn X T.hs)
  have hx0 : (expr && onTheHeap (Value.builtin "BaseException.__getattribute__")) = false := by cases expr <;> rfl
  have hx2 : (Value.builtin "BaseException.__getattribute__" == Value.builtin "object.__getattribute__") = false := by decide +kernel
  have hx1 : (onTheHeap (Value.ref C) && Value.builtin "BaseException.__getattribute__" == Value.builtin "object.__getattribute__") = false := by rw [hx2]; rfl
  unfold getAttr getAttrBy
  refine wpAny_bind (wpAny_mkText (wpAny_holding (wpAny_bind (L0.at (wpAny_bind (L1.at ?_))))))
  show wpAny _ _ (if (onTheHeap (Value.ref C) && Value.builtin "BaseException.__getattribute__" == Value.builtin "object.__getattribute__") = true then _ else _) _ _ _
  rw [hx1, if_neg Bool.false_ne_true]
  unfold getAttrByItsOwn hookBefore
  refine wpAny_bind ?_
  rw [if_pos (show onTheHeap (Value.ref C) = true from rfl)]
  refine L2.at ?_
  refine wpAny_bind (wpAny_attempt (wpAny_holding ?_))
  unfold callGetattribute
  rw [hx0, if_neg Bool.false_ne_true]
  unfold boundAndCalled
  rw [PySem.F.excAttr_ValueError.ga.bind (.ref x)]
  refine wpAny_bind (wpAny_pure ?_)
  show wpAny _ _ (call (.builtin "BaseException.__getattribute__") [.ref x, .str "__class__" t]) _ _ _
  refine wpAny_call (codeAny_call_builtin PySem.F.excAttr_ValueError.ga.plain PySem.F.entry_bexc_ga ?_)
  refine @check_slot (model prog w) _ _ ⟨hp, g, d, t + 1, os⟩ "BaseException.__getattribute__" "BaseException" "__getattribute__" (.ref x) [.str "__class__" t] [] _ (by decide +kernel) (by decide +kernel) sub (PySem.F.args_bexc_ga (.ref x) (.str "__class__" t)) ?_
  unfold Builtin.«object.__getattribute__»
  refine wpAny_bind (wpAny_of_eq (a := ((Value.ref x : Value), [Value.str "__class__" t])) (by first | rfl | (simp only [slotArgs]; rfl)) ?_)
  refine wpAny_bind (wpAny_pure (wpAny_bind (L0.at (wpAny_bind (L3.at ?_)))))
  show wpAny _ _ (holding [Value.builtin "object.__class__"] (call (.builtin "getset_descriptor.__get__") [.builtin "object.__class__", .ref x, .ref C]) >>= ret) _ _ _
  refine wpAny_bind (wpAny_holding (wpAny_call (class_get (s := ⟨hp, g, d, t + 1, os⟩) (ox := ox) (od := od) X I T.hm ?_)))
  refine wpAny_pure ?_
  show wpAny _ _ (handedOut (.ref C)) _ _ _
  rw [handedOut_of (v := .ref C) rfl]
  first
    | exact wpAny_pure h
    | exact wpAny_pure (wpAny_pure h)
end
end Fcn
namespace Fh
open PySem PySem.Spec PyProof.Rows L2
/-- what a class must say, so that its name is read off its instances -/
structure CnC (K : PySem.W.Frag) (C : Addr) : Prop where
  ex : ExcC K C
  rd : PySem.W.readsIn K C (.type "type") = true
  fc : PySem.W.findCls K (.ref C) (.type "type") "__name__" = some (.get (.builtin "getset_descriptor.__get__") (.builtin "type.__name__") (.ref C) (.type "type"))
  nm : ∃ (o : Obj) (nm : Str) (tk : Tok), K.lookup C = some o ∧ o.cls = .type "type" ∧ (o.slots[2]?).join = some (Value.str nm tk)
def cnB (K : PySem.W.Frag) (C : Addr) : Bool := PySem.W.readsIn K C (.type "type") && ((match PySem.W.findCls K (.ref C) (.type "type") "__name__" with
    | some (.get (.builtin g) (.builtin a) (.ref C') (.type t)) => g == "getset_descriptor.__get__" && (a == "type.__name__" && (C' == C && t == "type"))
    | _ => false) && (match K.lookup C with
    | some ⟨.type t, _, _, sl⟩ => t == "type" && (match (sl[2]?).join with
      | some (Value.str _ _) => true
      | _ => false)
    | _ => false))
theorem cnB_ok {K : PySem.W.Frag} {C : Addr} (he : ExcC K C) (h : cnB K C = true) : CnC K C := by
  unfold cnB at h
  obtain ⟨h1, h⟩ := Bool.and_eq_true_iff.mp h
  obtain ⟨h2, h3⟩ := Bool.and_eq_true_iff.mp h
  refine ⟨he, h1, ?_, ?_⟩
  · split at h2
    · rename_i g a C' t e
      simp only [Bool.and_eq_true, beq_iff_eq] at h2
      obtain ⟨rfl, rfl, rfl, rfl⟩ := h2
      exact e
    · cases h2
  · split at h3
    · rename_i t d dt sl e
      obtain ⟨a, b⟩ := Bool.and_eq_true_iff.mp h3
      split at b
      · rename_i nm tk e2
        exact ⟨_, nm, tk, e, by show Value.type t = _; rw [beq_iff_eq.mp a], e2⟩
      · cases b
    · cases h3
/-- e.__class__.__name__ -/
def tCn (K : PySem.W.Frag) (te : TE) : TE := fun σ H Q => te σ H fun x H1 => ∃ (a C dx : Addr) (fs : List (Str × V)), x = .ref a ∧ H1 a = some (exo a C (some dx)) ∧ H1 dx = some (exd dx fs) ∧ CnC K C ∧ ∀ nm, Q (.str nm) H1
theorem pe_cn {X : Cx} {e : Expr} {te : TE} {p1 p2 : Pos} (he : PE X e te) (hb : attributeBase e "__class__" X.env (eval e X.env) = eval e X.env := by rfl)
    (hb2 : attributeBase (.Attribute e "__class__" p1) "__name__" X.env (eval (.Attribute e "__class__" p1) X.env) = eval (.Attribute e "__class__" p1) X.env := by rfl) : PE X (.Attribute (.Attribute e "__class__" p1) "__name__" p2) (tCn X.K te) := by
  refine ⟨fun pins s σ H Q I h => ?_⟩
  refine attr_of hb2 (attr_of hb (thn (he.run pins s σ H _ I h) fun u s1 ⟨x, H1, I1, rx, a, C, dx, fs, ex, ea, ed, T, q⟩ => ?_))
  subst ex
  obtain rfl : u = Value.ref a := rx
  obtain ⟨t1, ho⟩ := exo_at I1.hok ea
  obtain ⟨mA, hns, rel⟩ := exd_at I1.hok ed
  obtain ⟨oD, _, _, hoD, _, _⟩ := hns.count (within_of rel)
  obtain ⟨o, nm, tk, h1, h2, h3⟩ := T.nm
  have J : PySem.W.InstAt s1.heap a ({ cls := .ref C, dict := some dx, data := .fields #[.ref t1, .none, .none, .none, .bool false, .none] } : Obj) C (some oD) := ⟨ho, rfl, rfl, hoD⟩
  have hcls : (PySem.W.clsIn X.K C).isSome = true := by
    have z := T.ex.hd
    unfold PySem.W.hasDictIn at z
    cases q2 : PySem.W.clsIn X.K C with
    | none => rw [q2] at z; cases z
    | some cd => rfl
  refine Fcn.exc_class T.ex (PySem.W.findObj_data hcls T.ex.ha T.ex.hn T.ex.ht) I1.kIn J ?_
  exact Fcn.cls_name (I1.tok _).kIn T.rd T.fc h1 h2 h3 ⟨.str nm, H1, (I1.tok _).tok _, ⟨tk, rfl⟩, q nm⟩
end Fh
end
section
set_option Elab.async false
set_option linter.all false
set_option maxRecDepth 100000
set_option maxHeartbeats 2000000
/-! Errors raised and caught. -/
namespace Fh
open PySem PySem.Spec PyProof.Rows L2
/-- what an error keeps -/
abbrev exF (v : V) (nm : Str) : List (Str × V) := [(("name" : Str), .str nm), (("what" : Str), v)]
/-- self.what = what; self.name = self.__class__.__name__, in a fresh error -/
def spInit (K : PySem.W.Frag) : Sp := fun vs H Q _ => ∃ (a : Addr) (v : V) (C : Addr), vs = [.ref a, v] ∧ H a = some (exo a C none) ∧ OexC K C ∧ PySem.W.findIn K (.ref C) "what" = some none ∧ PySem.W.findIn K (.ref C) "name" = some none ∧ CnC K C ∧
  ∀ dx nm, H dx = none → dx ≠ a → Q .non (upd (upd (upd H dx (exd dx [(("what" : Str), v)])) a (exo a C (some dx))) dx (exd dx (exF v nm)))
/-- an error class that keeps what it is told for -/
structure ErrC (P : Program) (w : World) (K : PySem.W.Frag) (mg : Str → Option Value) (base : Heap) (C : Str → Addr) (x : Str) : Prop where
  gC : mg x = some (.ref (C x))
  ox : OexC K (C x)
  noW : PySem.W.findIn K (.ref (C x)) "what" = some none
  noN : PySem.W.findIn K (.ref (C x)) "name" = some none
  cn : CnC K (C x)
  ini : ∃ fI fd, PySem.W.findIn K (.ref (C x)) "__init__" = some (some (.ref fI)) ∧ PySem.W.typeIn K (.ref fI) = some (.type "function") ∧ FnOk P w K mg base (L2N.CX P w) 1 fI fd ["self", "what"] (spInit K) ∧ Binds K fd ["self", "what"] []
section
variable {P : Program} {w : World} {K : PySem.W.Frag} {mg : Str → Option Value} {base : Heap} {f : Addr} {fd : FuncData}
/-- the text of __init__ -/
structure IniP where
  p1 : Pos
  p2 : Pos
  p3 : Pos
  p4 : Pos
  p5 : Pos
  p6 : Pos
  p7 : Pos
  p8 : Pos
  p9 : Pos
  pa : Pos
def iniBody (P : IniP) : List Stmt := [.Assign [.Attribute (.Name "self" P.p1) "what" P.p2] (.Name "what" P.p3) P.p4, .Assign [.Attribute (.Name "self" P.p5) "name" P.p6] (.Attribute (.Attribute (.Name "self" P.p7) "__class__" P.p8) "__name__" P.p9) P.pa]
theorem ok_init {params : Arguments} {scope : Scope} {Po : IniP} (F : FunD K "__init__" "Refused.__init__" params (iniBody Po) scope [] [] f fd) (S : FnScope ["self", "what"] ["self", "what"] scope) (hs : scope.names = [(("self" : Str), .local), (("what" : Str), .local)]) :
    FnOk P w K mg base (L2N.CX P w) 1 f fd ["self", "what"] (spInit K) := by
  refine F.ok S (fun vs H Q E h => ?_) (fun cdv A outer s H vs Q E hr h => ?_)
  · obtain ⟨a, v, C, rfl, _⟩ := h
    rfl
  · obtain ⟨a, v, C, rfl, h1, h2, h3, h3n, hcn, h4⟩ := h
    have v0 : Vis (cxOf (L2N.CX P w) P w K mg base ["self", "what"] "Refused.__init__" scope f cdv A outer s H E).env.scope "self" := .inl (by show scope.names.lookup ("self" : Str) = _; rw [hs]; rfl)
    have v1 : Vis (cxOf (L2N.CX P w) P w K mg base ["self", "what"] "Refused.__init__" scope f cdv A outer s H E).env.scope "what" := .inl (by show scope.names.lookup ("what" : Str) = _; rw [hs]; rfl)
    refine ⟨_, pss_cons (ps_ost (pe_var (i := 0) rfl v0) (pe_var (i := 1) rfl v1)) (pss_one (ps_ost (pe_var (i := 0) rfl v0) (pe_cn (pe_var (i := 0) rfl v0)))), ?_⟩
    refine ⟨v, rfl, .ref a, rfl, a, C, rfl, h2, h3, .inl ⟨h1, fun dx hd ne => ?_⟩⟩
    have e1 : upd (upd H dx (exd dx [(("what" : Str), v)])) a (exo a C (some dx)) a = some (exo a C (some dx)) := upd_same
    have e2 : upd (upd H dx (exd dx [(("what" : Str), v)])) a (exo a C (some dx)) dx = some (exd dx [(("what" : Str), v)]) := by rw [upd_ne ne, upd_same]
    exact ⟨.ref a, rfl, a, C, dx, _, rfl, e1, e2, hcn, fun nm => ⟨.ref a, rfl, a, C, rfl, h2, h3n, .inr ⟨dx, _, e1, e2, by show 1 ≤ 900; decide, h4 dx nm hd ne⟩⟩⟩
end
section
variable {w : Wh} {ρ ρ1 : Rho} {c c1 c2 : HO} {d d1 d2 : D} {ds es : List D} {st : Stmt} {rest sts : List Stmt} {o : Out} {e ea eb : Expr} {els : List Expr} {pos pos2 p : Pos} {x y : Str}
theorem sx_raise {k : Nat} (hE : ErrC w.X.prog w.X.w w.X.K w.X.mg w.X.base w.C x) (hr : Room k w.X.A) (hk : 2 ≤ k) (h : Ev w.X w.F e ρ c d c1) (hg : Gl w.X x) (hc : w.X.calm = true := by kernel_rfl) (hd : (x == ("__debug__" : Str)) = false := by kernel_rfl)
    (he : starEach [e] w.X.env = (false, eval e w.X.env) :: starEach [] w.X.env := by kernel_rfl) : Sx w (.Raise (some (.Call (.Name x p) [e] [] pos)) none pos2) ρ c (.exn x d c1) := fun hw Z σ H ⟨L, oo, E, z⟩ D q => by
  obtain ⟨fI, fd, h1, h2, h3, h4⟩ := hE.ini
  refine wS_of (L2N.ps_raise hc hw.tk (mkNew hE.ox h1 h2 h3 (hr.mono hk) h4 passNL hg hE.gC (pa_cons pe_w pa_nil he) hd he rfl)) ?_
  refine h hw.k L σ H oo E _ fun v H1 s1 o1 r1 => ⟨by show 1 ≤ 1000; decide, fun a ha => ⟨a, v, w.C x, rfl, upd_same, hE.ox, hE.noW, hE.noN, hE.cn, fun dx nm hdx ne => ?_⟩⟩
  have hd1 : H1 dx = none := by rw [upd_ne ne] at hdx; exact hdx
  refine ⟨rfl, dx, exF v nm, by rw [upd_ne (Ne.symm ne), upd_same], upd_same, hd1, ?_⟩
  have eh : upd (del (upd (upd (upd (upd H1 a (exo a (w.C x) none)) dx (exd dx [(("what" : Str), v)])) a (exo a (w.C x) (some dx))) dx (exd dx (exF v nm))) a) dx (.xd (exF v nm)) = upd H1 dx (.xd (exF v nm)) := by
    funext b
    by_cases hb : b = dx
    · rw [hb, upd_same, upd_same]
    · rw [upd_ne hb, upd_ne hb]
      by_cases hba : b = a
      · rw [hba, del_same, ha]
      · rw [del_ne hba, upd_ne hb, upd_ne hba, upd_ne hb, upd_ne hba]
  rw [eh]
  exact q σ _ dx ⟨(o1.new hd1).drop, v, ⟨_, upd_same, rfl⟩, (r1.stp o1.jL (Stp.new hd1)).sub fun a ha => List.mem_append_right _ ha⟩
/-- try: body / except x: suite, where the body raises nothing -/
theorem sx_try_not {body suite : List Stmt} {b₀ : Stmt} {np pos' : Pos} (hc : Names w.X x (.ref (w.C x))) (hs : w.X.stack = w.X.env :: w.X.outer) (hf : w.X.env.frame = some w.X.env.locals)
    (h : ∀ (W : WX) (pn : List (Addr × Obj)) (xe : Value → Shared → Prop), Sxs ⟨w.X.tr pn xe, w.F, W, w.C⟩ body ρ c o) (ho : ∀ k d c, o ≠ .exn k d c) : Sx w (.Try body [.ExceptHandler (some (.Name x np)) none (b₀ :: suite) pos'] [] [] pos) ρ c o := fun hw Z σ H a D q => by
  refine wS_of (L2N.ps_try_many (tb := fun W D σ H => ∀ pn xe, L2N.Takes (w.X.tr pn xe) W → wSs (w.X.tr pn xe) body D σ H) hs hf hw.tk (fun W pn xe tk _ => ⟨fun pins s σ H D I h => h pn xe tk pins s I⟩)
    (.cons (ts := fun a cls d D σ H => ∀ oe pn, L2N.Zn cls d oe → (∃ vs, oe.data = .fields vs) → wSs (w.X.suite a ((a, oe) :: pn)) (b₀ :: suite) D σ H) hc (fun a oe cls d pn hz hv => ⟨fun pins s σ H D I h => h oe pn hz hv pins s I⟩) .nil)) ?_
  refine fun pn xe tk => h _ pn xe ⟨hw.k, tk⟩ Z σ H a D ?_
  cases o with
  | nx ρ c => exact q
  | ret d c => exact q
  | brk ρ c => exact q
  | ct ρ c => exact q
  | exn k d c => exact absurd rfl (ho k d c)
/-- .. where the body raises such an error, and the suite hands back -/
theorem sx_try_ret {body suite : List Stmt} {b₀ : Stmt} {np pos' : Pos} {k : Str} (hc : Names w.X x (.ref (w.C x))) (hs : w.X.stack = w.X.env :: w.X.outer) (hf : w.X.env.frame = some w.X.env.locals)
    (h : ∀ (W : WX) (pn : List (Addr × Obj)) (xe : Value → Shared → Prop), Sxs ⟨w.X.tr pn xe, w.F, W, w.C⟩ body ρ c (.exn k d c1)) (hk : PySem.W.exmOne w.X.K (.ref (w.C k)) (.ref (w.C x)) = some true)
    (h2 : ∀ (n : Nat) (a : Addr) (oe : Obj) (pn : List (Addr × Obj)), Sxs ⟨w.X.suite a ((a, oe) :: pn), w.F, fun _ _ _ _ => False, w.C⟩ (b₀ :: suite) (List.replicate n none) c1 (.ret d2 c2)) : Sx w (.Try body [.ExceptHandler (some (.Name x np)) none (b₀ :: suite) pos'] [] [] pos) ρ c (.ret d2 c2) := fun hw Z σ H a D q => by
  refine wS_of (L2N.ps_try_many (tb := fun W D σ H => ∀ pn xe, L2N.Takes (w.X.tr pn xe) W → wSs (w.X.tr pn xe) body D σ H) hs hf hw.tk (fun W pn xe tk _ => ⟨fun pins s σ H D I h => h pn xe tk pins s I⟩)
    (.cons (ts := fun a cls d D σ H => ∀ oe pn, L2N.Zn cls d oe → (∃ vs, oe.data = .fields vs) → wSs (w.X.suite a ((a, oe) :: pn)) (b₀ :: suite) D σ H) hc (fun a oe cls d pn hz hv => ⟨fun pins s σ H D I h => h oe pn hz hv pins s I⟩) .nil)) ?_
  refine fun pn xe tk => h _ pn xe ⟨hw.k, tk⟩ Z σ H a D fun σ' H' dd x' => ⟨true, hk, fun _ b hb oe pn hz hv => ?_, fun z => by cases z⟩
  obtain ⟨o', v, h5, h6⟩ := x'
  refine h2 σ'.length b oe pn ⟨hw.k, takesN0⟩ (fun _ => none) σ' H' ⟨[], o', ?_, fun a o z => by cases z⟩ D q
  have no : ∀ (i : Nat) (s : Sl), (List.replicate σ'.length (none : Option Sl))[i]? ≠ some (some s) := fun i s z => by
    rw [List.getElem?_replicate] at z
    split at z <;> cases z
  exact ⟨by rw [List.length_replicate], fun i d z => absurd z (no i _), fun i d z => absurd z (no i _), fun i k a b p z _ _ _ => absurd z (no i _)⟩
end
end Fh
end
section
set_option Elab.async false
set_option linter.all false
set_option maxRecDepth 100000
set_option maxHeartbeats 2000000
/-! enumerate over a tuple. -/
namespace FhT
open PySem
open Sem (wp)
open AutoSeq1 (wpAny_loadPart')
theorem meets_enumerate_newT (l : Addr) (items : Array Value) (n : Nat) (dct : Option Addr) (sl : Array (Option Value)) :
    Meets (Builtin.«enumerate.__new__» ⟨[.type "enumerate", .ref l], []⟩) (fun _ R s => s.heap.get? l = some { cls := .type "tuple", dict := dct, data := .seq items n, slots := sl } ∧
      R (.ok (.ret (.ref (s.heap.push { cls := .type "tuple_iterator", data := .fields #[.ref l, .int 0 0] }).objs.size)))
        { s with heap := (s.heap.push { cls := .type "tuple_iterator", data := .fields #[.ref l, .int 0 0] }).push { cls := .type "enumerate", data := .fields #[.none, .bool false, .ref s.heap.objs.size, rawInt 0, .none, .none] } }) :=
  .of_wp fun prog w A R s h => by
    obtain ⟨hp, g, d, tk, os⟩ := s; obtain ⟨hl, h⟩ := h
    have hsub := sub_enumerate
    have hL : Heap.IsTuple (Shared.heap ⟨hp, g, d, tk, os⟩) l items := ⟨_, hl, rfl, n, rfl⟩
    wp_walk using wpAny_loadPart' hl
    refine wpAny_stack_any fun st => wpAny_pure ?_
    split
    · rename_i c _ _ _ _ _
      cases (c == Value.type "enumerate")
      · wp_walk using wpAny_loadPart' hl, wpAny_pyIter_tuple hL
        exact ⟨_, rfl, h⟩
      · wp_walk using wpAny_loadPart' hl, wpAny_pyIter_tuple hL
        exact ⟨_, rfl, h⟩
    · wp_walk using wpAny_loadPart' hl, wpAny_pyIter_tuple hL
      exact ⟨_, rfl, h⟩
section
variable {prog : Program} {w : World} {A : Around} {E : Value → Shared → Prop} {s : Shared}
theorem call_enumerate_tuple {l : Addr} {items : Array Value} {Q : Value → Shared → Prop} (hL : s.heap.IsTuple l items)
    (h : ∀ h', IsEnum h' (s.heap.objs.size + 1) s.heap.objs.size 0 .none → h'.IsTupleIter s.heap.objs.size l 0 → h'.objs.size = s.heap.objs.size + 2 →
      (∀ b o, s.heap.get? b = some o → h'.get? b = some o) → Q (.ref (s.heap.objs.size + 1)) { s with heap := h' }) :
    wpAny (model prog w) A (call (.type "enumerate") [.ref l]) Q E s := by
  obtain ⟨⟨c, dct, dt, sl⟩, hl, hc, n, hd⟩ := hL
  replace hc : c = .type "tuple" := hc
  replace hd : dt = .seq items n := hd
  subst hc hd
  refine callType_new F.called_enumerate (by decide) (F.typeCall_enumerate_1 _) (F.newCall_enumerate_1 _) (fun obj => F.args_object_init_2 obj _) F.entry_enumerate_new
    (meets_enumerate_newT l items n dct sl) ⟨hl, ?_⟩
  have hz : (s.heap.push { cls := .type "tuple_iterator", data := .fields #[.ref l, .int 0 0] }).objs.size = s.heap.objs.size + 1 := Heap.size_push ..
  show _ ∧ _
  rw [hz]
  have he : IsEnum ((s.heap.push { cls := .type "tuple_iterator", data := .fields #[.ref l, .int 0 0] }).push
      { cls := .type "enumerate", data := .fields #[.none, .bool false, .ref s.heap.objs.size, rawInt 0, .none, .none] }) (s.heap.objs.size + 1) s.heap.objs.size 0 .none := by
    have := Heap.get?_push_size (s.heap.push { cls := .type "tuple_iterator", data := .fields #[.ref l, .int 0 0] })
      (o := { cls := .type "enumerate", data := .fields #[.none, .bool false, .ref s.heap.objs.size, rawInt 0, .none, .none] }) rfl
    rw [hz] at this; exact this
  refine ⟨⟨_, he, rfl⟩, h _ he ⟨_, Heap.get?_push_of_some _ (Heap.get?_push_size _ rfl), rfl, rfl⟩ (by rw [Heap.size_push, hz]) fun b o x => Heap.get?_push_of_some _ (Heap.get?_push_of_some _ x)⟩
theorem enum_end_tuple {e it l : Addr} {i : Nat} {items : Array Value} {old : Value} {Q : Option Value → Shared → Prop} (hh : A.handled = none)
    (he : IsEnum s.heap e it i old) (hit : s.heap.IsTupleIter it l i) (hl : s.heap.IsTuple l items) (hx : items[i]? = none)
    (hQ : ∀ h', Heap.ExtBut it s.heap h' → Q none { s with heap := h' }) : wpAny (model prog w) A (pyNext (.ref e)) Q E s := by
  have hT : s.TypeIs (.ref e) "enumerate" := ⟨_, he, rfl⟩
  unfold pyNext
  refine wpAny_bind (wpAny_attempt (wpAny_callSpecial?_slot (name := Str.ofString "__next__") hT F.slot_enumerate_next
    (wpAny_call_entry F.slot_enumerate_next hT F.entry_enumerate_next ?_ (F.args_enumerate_next_1 _))))
  show wpAny _ _ (field (.ref e) 2 >>= _) _ _ _
  refine wpAny_bind (wpAny_field he rfl (x := .ref it) rfl ?_)
  refine wpAny_bind (wpAny_nextOf_tuple_end hh hit hl hx fun h' x he' hx' => ?_)
  obtain ⟨o, ho, hc⟩ := hx'
  refine wpAny_bind (wpAny_isInstance (T := "StopIteration") (b := true) ⟨o, ho, hc⟩ isSubtype_stop ?_)
  exact wpAny_pure (hQ _ he')
end
end FhT
namespace Fh
open PySem PySem.Spec PyProof.Rows L2
/-- the tuple at a, each item in a new pair -/
def IteT (K : PySem.W.Frag) (a : Addr) : It :=
  ⟨fun i H => ∃ (xs : List V) (x : V), SqT K H a xs ∧ xs[i]? = some x, fun i H v H' => ∃ T x, v = .ref T ∧ H T = none ∧ H' = upd H T (.tup [.int (i : Nat), x]) ∧ ∀ xs, SqT K H a xs → xs[i]? = some x, fun i H => ∃ xs : List V, SqT K H a xs ∧ xs.length ≤ i⟩
theorem turn_enumT {P : Program} {w : World} {K : PySem.W.Frag} {elts : List Expr} {kk : Nat} {tpos : Pos} (a e it : Addr) :
    Turn P w K (.Tuple elts kk tpos) (IteT K a) [e, it] e (fun i h => (∃ old, IsEnum h e it ((i : Nat) : Int) old) ∧ h.IsTupleIter it a i ∧ e ≠ it ∧ a ≠ it ∧ e ≠ a) where
  mem := by simp
  obj := fun i h st b hb => by
    obtain ⟨⟨old, he⟩, ⟨o, ho, hc, hd⟩, _⟩ := st
    have e' : b = e ∨ b = it := by simpa using hb
    rcases e' with z | z
    · rw [z]; exact ⟨_, he, fun v q => nomatch q⟩
    · rw [z]; exact ⟨o, ho, fun v q => by rw [hd] at q; cases q⟩
  keep := fun i h h' st k => let ⟨⟨old, he⟩, hi, hne⟩ := st; ⟨⟨old, k e (by simp) _ he⟩, hi.at fun o q => k it (by simp) o q, hne⟩
  item := by
    intro X hP hw hK hc i pins s σ H E I hf st hg
    subst hP hw hK
    obtain ⟨⟨old, he⟩, hit, hne, hai, hea⟩ := st
    obtain ⟨xs, x, hq, hx⟩ := hg
    obtain ⟨its, rv, p, hz⟩ := I.tuple hq
    obtain ⟨u, hu, ru⟩ := rv.get hx
    have p' : s.heap.IsTuple a its.toArray := p
    have hel : e < s.heap.objs.size := Heap.lt_size he
    have hil : it < s.heap.objs.size := by obtain ⟨_, q, _⟩ := hit; exact Heap.lt_size q
    have hlt : i < its.toArray.size := by
      have := (List.getElem?_eq_some_iff.mp hu).1
      simpa using this
    refine wpAny_pyNext_enum_itemD (Draws.tuple (A := X.A.in1) (I.ok.hd hc) it a hai its.toArray) he ⟨hit, p'⟩ hlt hne (by simp; exact ⟨hne, hea⟩) fun x' h' tk hx' ho hst' hT hsz hk => ?_
    have ex : x' = u := by
      have q1 : its[i]? = some x' := by simpa using hx'
      rw [hu] at q1
      exact (Option.some.inj q1).symm
    subst ex
    refine ⟨_, rfl, wpAny_letOwnedTupleGo_enum (s := { s with heap := h', toks := tk + 1 }) ho fun h'' he' sb => ?_⟩
    have hT2 : h''.get? s.heap.objs.size = some { cls := .type "tuple", data := .seq #[.int i tk, x'] } := (sb.2 _ (Nat.ne_of_gt hel)).trans hT
    have new : ObjOk X.prog X.w (upd H s.heap.objs.size (.tup [.int (i : Nat), x])) h'' s.heap.objs.size (.tup [.int (i : Nat), x]) :=
      ⟨by show 2 ≤ sizeLine; decide, [.int i tk, x'], .cons ⟨_, rfl⟩ (.cons ru .nil), ⟨_, hT2, rfl, _, rfl⟩⟩
    have I1 : Inv X pins σ (upd H s.heap.objs.size (.tup [.int (i : Nat), x])) { s with heap := h'', toks := tk + 1 } :=
      I.turnedNew (ch := [e, it]) (fun b ob hb q => (sb.2 b (fun z => hb (by simp [z]))).trans (hk b ob (fun z => hb (by simp [z])) (fun z => hb (by simp [z])) q)) hf (Nat.le_refl _) new
    refine ⟨.ref s.heap.objs.size, _, I1, rfl, ⟨_, x, rfl, I.hok.fresh (Nat.le_refl _), rfl, fun ys hy => by rw [I.tuple_inj hy hq]; exact hx⟩, ⟨⟨x', ?_⟩, hst'.1.at fun o q => (sb.2 it (Ne.symm hne)).trans q, hne, hai, hea⟩, fun b hb => ?_⟩
    · have e1 : ((i + 1 : Nat) : Int) = (i : Int) + 1 := by omega
      rw [e1]; exact he'
    · have hb' : b < s.heap.objs.size := by
        have e' : b = e ∨ b = it := by simpa using hb
        rcases e' with z | z
        · rw [z]; exact hel
        · rw [z]; exact hil
      rw [upd_ne (Nat.ne_of_lt hb')]
      exact (hf b hb).1
  done := by
    intro X hP hw hK hc i pins s σ H E I hf st hg
    subst hP hw hK
    obtain ⟨⟨old, he⟩, hit, hne, hai, hea⟩ := st
    obtain ⟨xs, hq, hx⟩ := hg
    obtain ⟨its, rv, p, hz⟩ := I.tuple hq
    have p' : s.heap.IsTuple a its.toArray := p
    obtain ⟨f0, f1, f2, f3, f4, f5⟩ := hf it (by simp)
    have hl := rv.length
    exact FhT.enum_end_tuple (I.ok.hd hc) he hit p' (by simp; omega) fun h' eb => ⟨rfl, I.turned (t' := s.toks) (fun b o hb q => eb b o hb q) f0 f1 f3 f4 f5⟩
  self := fun A i s Q E st h => let ⟨⟨_, he⟩, _⟩ := st; wpAny_pyIter_enum he h
def iEnumT (K : PySem.W.Frag) (ta : TA) : TI := fun σ H R => ta σ H fun vs H1 => ∃ a xs, vs = [.ref a] ∧ SqT K H1 a xs ∧ R (IteT K a) H1
theorem pi_enumT {X : Cx} {e : Expr} {ta : TA} {p pos tpos : Pos} {elts : List Expr} {kk : Nat} (hg : Gl X "enumerate") (hm : X.mg "enumerate" = none) (ha : PA X [e] ta) (hs : starEach [e] X.env = [(false, eval e X.env)] := by kernel_rfl) :
    PI X (.Tuple elts kk tpos) (.Call (.Name "enumerate" p) [e] [] pos) (iEnumT X.K ta) := by
  refine ⟨fun pins s σ H R I h => ?_⟩
  refine Call_ (ld_blt I hg hm boot_enumerate (PyProof.Rows.callWith_type1 (thn (ha.run pos pins s σ H _ I h) fun us s1 ⟨vs, H1, I1, r1, q1⟩ => ?_) hs rfl))
  obtain ⟨a, xs, ex, hq, q⟩ := q1
  subst ex
  cases r1 with
  | cons r rr =>
    cases rr
    cases r
    obtain ⟨its, rv, p', hz⟩ := I1.tuple hq
    have p2 : s1.heap.IsTuple a its.toArray := p'
    have hal : a < s1.heap.objs.size := by obtain ⟨o, e, _⟩ := p2; exact Heap.lt_size e
    refine FhT.call_enumerate_tuple p2 fun h' he hit hsz hk => wpAny_pyIter_enum he ?_
    have I2 : Inv X pins σ H1 { s1 with heap := h' } := I1.kept (t' := s1.toks) hk
    refine ⟨s1.heap.objs.size + 1, [s1.heap.objs.size + 1, s1.heap.objs.size], _, _, H1, rfl, I2, turn_enumT a (s1.heap.objs.size + 1) s1.heap.objs.size, ⟨⟨.none, he⟩, hit, Nat.succ_ne_self _, Nat.ne_of_lt hal, Nat.ne_of_gt (Nat.lt_succ_of_lt hal)⟩, fun b hb => ?_, q⟩
    have e' : b = s1.heap.objs.size + 1 ∨ b = s1.heap.objs.size := by simpa using hb
    have hle : s1.heap.objs.size ≤ b := by
      rcases e' with z | z
      · rw [z]; exact Nat.le_add_right _ _
      · rw [z]; exact Nat.le_refl _
    exact I1.fpOk hle (I1.hok.fresh hle)
/-- the pairs that enumerate gives -/
def enumD : Nat → List D → List D
  | _, [] => []
  | i, d :: ds => .tup [.int (i : Int), d] :: enumD (i + 1) ds
section
variable {w : Wh} {ρ : Rho} {c c1 : HO} {d : D} {ds : List D} {body : List Stmt} {g : TG} {o : Out} {iter a b c' : Expr} {pos p tpos : Pos} {elts : List Expr} {kk : Nat}
theorem sx_for_enumT (r : ForRel w body g (enumD 0 ds) ρ c1 o) (hg : PG w.X (.Tuple elts kk tpos) g) (hgl : Gl w.X "enumerate") (hm : w.X.mg "enumerate" = none) (h : Ev w.X w.F a ρ c (.tup ds) c1) (hc : w.X.calm = true := by kernel_rfl) (hp : PassesOwn (model w.X.prog w.X.w) w.X.A w.X.env w.X.xe := by exact PassesOwn.never)
    (he : starEach [a] w.X.env = [(false, eval a w.X.env)] := by kernel_rfl) (hs : ∀ x, foldedSetIterable (.Call (.Name "enumerate" p) [a] [] pos) w.X.env x = pure x := by intro _; kernel_rfl) {pos2 : Pos} :
    Sx w (.For (.Tuple elts kk tpos) (.Call (.Name "enumerate" p) [a] [] pos) body [] pos2) ρ c o := fun hw Z σ H ⟨L, oo, E, z⟩ D' q => by
  refine wS_of (ps_for hp hc (pi_enumT hgl hm (pa_cons pe_w pa_nil he) he) hg pss_w hs) ?_
  refine h hw.k L σ H oo E _ fun v H1 s1 o1 r1 => ?_
  cases r1 with
  | tup h1 h2 =>
  rename_i p xs
  have z1 := z.stp oo.jL s1
  have q' : Post w.F (off (L ++ w.F.S0) H1) w.W w.C o D' := q.weak z1
  have sqt : ∀ {H' : Hp} {o' : Out} {l : List D} {σ' : L2.St}, TurnAt w body g (off (L ++ w.F.S0) H1) o' l σ' H' → SqT w.X.K H' p xs := fun {H' o' l σ'} ⟨ρ', c', ⟨L', o', E', k'⟩, _⟩ => by
    rw [hw.k]
    exact sqT_mono (fun a o e t => (off_some (k' a o e t)).2) h1
  refine ⟨p, xs, rfl, ?_, fun i m σ H => m = xs.length - i ∧ i ≤ xs.length ∧ TurnAt w body g (off (L ++ w.F.S0) H1) o (enumD i (ds.drop i)) σ H, ⟨_, rfl, Nat.zero_le _, ρ, c1, ⟨L, o1, E.step oo.jL s1, kept0⟩, r⟩, ?_⟩
  · rw [hw.k]
    exact sqT_mono (fun a o e _ => (off_some e).2) h1
  · rintro i m σ' H' ⟨em, hi, t⟩
    have st := sqt t
    by_cases hlt : i < xs.length
    · refine .inr ⟨⟨xs, xs[i], st, List.getElem?_eq_getElem hlt⟩, fun σ2 H2 => TurnAt w body g (off (L ++ w.F.S0) H1) o (enumD (i + 1) (ds.drop (i + 1))) σ2 H2, fun σ2 H2 t2 => ⟨xs.length - (i + 1), by omega, rfl, by omega, t2⟩, ?_⟩
      rintro x H'' ⟨T, y, rfl, hT, rfl, hy⟩
      obtain ⟨d, hd, rd⟩ := h2.get (hy xs st)
      rw [drop_at hd] at t
      obtain ⟨ρ', c', ⟨L', o', E', k'⟩, rel⟩ := t
      exact turn_run0 hw q' (o'.new hT) (E'.step o'.jL (Stp.new hT)) (k'.stp o'.jL (Stp.new hT)) rel (o'.newT hT (.cons (.int _) (.cons (rd.mono k') .nil))) (fun _ _ a => a) (fun _ _ a => a)
    · refine .inl ⟨⟨xs, st, by omega⟩, ?_⟩
      have e : i = xs.length := by omega
      rw [e, h2.length, List.drop_length] at t
      exact turn_end q' t
end
end Fh
end
section
set_option Elab.async false
set_option linter.all false
set_option maxRecDepth 100000
set_option maxHeartbeats 2000000
/-! While an error is handled: a list is walked to its end; isinstance of that error. -/
namespace Fh
open PySem PySem.Spec PyProof.Rows L2 HotX L2H
section
variable {prog : Program} {w : World} {A : Around} {E : Value → Shared → Prop} {s : Shared}
/-- a list's iterator at its end -/
theorem listEndHot {it l z : Addr} {i : Nat} {xs : Array Value} {Q : Option Value → Shared → Prop} (hot : HotAt A z s.heap) (hi : s.heap.IsListIter it l i) (hl : s.heap.IsList l xs) (hn : xs[i]? = none) (nz : z ≠ it)
    (q : ∀ h', (∀ b o, b ≠ it → s.heap.get? b = some o → h'.get? b = some o) → Q none { s with heap := h' }) : wpAny (model prog w) A (pyNext (.ref it)) Q E s := by
  obtain ⟨hh, oz, vz, gz, dz, cz⟩ := hot
  obtain ⟨oi, gi, ci, di⟩ := id hi
  obtain ⟨ol, gl, _, nl, dl⟩ := hl
  unfold pyNext
  refine wpAny_bind (wpAny_attempt (wpAny_callSpecial?_slot (name := Str.ofString "__next__") hi.typeIs slot_listiter_next
    (wpAny_call_entry slot_listiter_next hi.typeIs entry_listiter_next ?_
      (args_listiter_next _))))
  show wpAny _ _ (field (.ref it) 0 >>= _) _ _ s
  refine wpAny_bind (wpAny_field gi di (x := Value.ref l) rfl ?_)
  show wpAny _ _ (if (Value.ref l == Value.none) = true then _ else _) _ _ s
  have nn : ¬ ((Value.ref l == Value.none) = true) := fun z => Bool.false_ne_true z
  rw [if_neg nn]
  show wpAny _ _ (field (.ref it) 1 >>= _) _ _ s
  refine wpAny_bind (wpAny_field gi di (x := Value.int i 0) rfl ?_)
  show wpAny _ _ (seqItems? (.ref l) >>= _) _ _ s
  refine wpAny_bind (wpAny_seqItems gl dl ?_)
  simp only [Int.toNat_natCast, hn]
  refine wpAny_bind (wpAny_rule (wpAny_bind (wpAny_setField gi di (by simp) ?_)))
  show wpAny _ _ (newExc (.type "StopIteration") [] >>= _) _ _ _
  refine wpAny_bind ?_
  simp only [newExc, newTuple]
  refine wpAny_bind (wpAny_newObj_type ?_ (by size_fits))
  refine wpAny_bind (m := firstArgMember _ _) (wpAny_of_eq (a := Value.none) (by first
    | rfl
    | (simp only [firstArgMember]; rfl)) ?_)
  refine wpAny_newObj_type ?_ (by size_fits)
  have g1 : ∀ b o, b ≠ it → s.heap.get? b = some o → (s.heap.update it (Obj.mapFields (·.setIfInBounds 0 Value.none))).get? b = some o := fun b o n e => by
    rw [Heap.get?_update_other _ _ (Ne.symm n)]
    exact e
  refine raiseNew_hot ⟨hh, oz, vz, Heap.get?_push_of_some _ (Heap.get?_push_of_some _ (g1 _ _ nz gz)), dz, cz⟩ (Nat.ne_of_lt (Heap.lt_size (Heap.get?_push_of_some _ (g1 _ _ nz gz)))) (Heap.get?_push_size _ rfl) rfl
    (by first
      | (simp; done)
      | (simp; omega)
      | (simp only [Array.size_append]; simp; omega)) ?_
  refine wpAny_bind (wpAny_isInstance (T := "StopIteration") (b := true) ⟨_, Heap.get?_update_self _ (Heap.get?_push_size _ rfl) rfl, rfl⟩ isSubtype_stop ?_)
  refine wpAny_pure (q _ fun b o n e => ?_)
  have e' := g1 b o n e
  rw [Heap.get?_update_other _ _ (Nat.ne_of_gt (Heap.lt_size (Heap.get?_push_of_some _ e')))]
  exact Heap.get?_push_of_some _ (Heap.get?_push_of_some _ e')
end
section
variable {X : Cx} {elt tg iter : Expr} {ifs : List Expr} {scope : Scope} {own : List (Str × Nat)} {pos : Pos} {g : TG} {tt : TT} {tl te : TE}
/-- a comprehension over a list, while an error is handled -/
theorem pe_lcH (hot : HotC X) (nd : X.N.Nodup) (hi : PE X iter tl) (ok : BlkOk X.N X.env.scope scope own)
    (hg : ∀ (s : Shared) (H : Hp) (C : Addr) (cl : List (Str × Addr)) (fp : List Addr), PG (X.blk s H scope (compEnvC scope cl C X.env) fp) tg g)
    (ht : ∀ (s : Shared) (H : Hp) (C : Addr) (cl : List (Str × Addr)) (fp : List Addr), PTs (X.blk s H scope (compEnvC scope cl C X.env) fp) ifs tt)
    (he : ∀ (s : Shared) (H : Hp) (C : Addr) (cl : List (Str × Addr)) (fp : List Addr), PE (X.blk s H scope (compEnvC scope cl C X.env) fp) elt te) (hs : ∀ x, foldedSetIterable iter X.env x = pure x) :
    PE X (.ListComp elt [⟨tg, iter, ifs, 0⟩] scope pos) (tLc (iList X.K tl) g tt te (own.map (·.2))) := by
  refine ⟨fun pins s σ H Q I h => ?_⟩
  rw [eval_ListComp]
  obtain ⟨zp, ⟨zh, zv, zd, zc⟩, zm⟩ := hot
  have cells : ∀ y ∈ scope.names, y.2 = .free → ∃ c, X.env.cells.lookup y.1 = some c := fun y hy e => by
    rcases ok.free y hy e with k | k
    · exact I.ok.has _ (.inl k)
    · exact I.ok.has _ (.inr k)
  refine wpAny_comprehension_free (use := none) rfl hs (closure_ok cells) ok.kind (fun y hy e => by rw [ok.uniq y hy, e]) (thn (hi.run pins s σ H _ I h) fun u s1 hu => ?_)
  obtain ⟨x, H2, I1, rx, a, ex, ⟨xs0, hq0⟩, q⟩ := hu
  subst ex
  cases rx
  obtain ⟨its0, rv0, p0, hz0⟩ := I1.list hq0
  refine wpAny_pyIter_list p0.isList ?_
  refine wpAny_newObj_type (newEnv_comp ?_) (by show 0 ≤ sizeLine; decide)
  -- the iterator, the new list
  generalize eh2 : s1.heap.push { cls := .type "list_iterator", data := .fields #[.ref a, .int 0 0] } = h2
  have I2 : Inv X pins σ H2 { s1 with heap := h2 } := by
    rw [← eh2]
    exact I1.kept (t' := s1.toks) fun b o e => Heap.get?_push_of_some _ e
  generalize eit : s1.heap.objs.size = it
  have n2 : H2 it = none := I1.hok.fresh (Nat.le_of_eq eit)
  have f2 : FpOk X pins H2 it := I1.fpOk (Nat.le_of_eq eit) n2
  have st2 : h2.IsListIter it a 0 := by
    rw [← eh2, ← eit]
    exact ⟨_, Heap.get?_push_size _ rfl, rfl, rfl⟩
  have lt2 : it < h2.objs.size := by
    rw [← eh2, ← eit, Heap.size_push]
    exact Nat.lt_succ_self _
  generalize eD : h2.objs.size = Dl
  have nD : H2 Dl = none := I2.hok.fresh (Nat.le_of_eq eD)
  obtain ⟨W, ⟨m0, w0⟩, turn⟩ := q Dl nD
  generalize es3 : ({ s1 with heap := h2.push { cls := .type "list", data := .seq ([] : List Value).toArray } } : Shared) = s3
  have I3 : Inv X pins σ (upd H2 Dl (.lst [])) s3 := by
    rw [← es3]
    refine I2.laid (t' := s1.toks) (fun b o e => Heap.get?_push_of_some _ e) (Nat.le_of_eq eD) ⟨Nat.zero_le _, [], 0, .nil, ?_⟩
    rw [← eD]
    exact Heap.get?_push_size _ rfl
  have eh3 : s3.heap = h2.push { cls := .type "list", data := .seq ([] : List Value).toArray } := by rw [← es3]
  have nI : it ≠ Dl := by
    rw [← eD]
    exact Nat.ne_of_lt lt2
  have fp3 : ∀ b ∈ [it], FpOk X pins (upd H2 Dl (.lst [])) b ∧ b < s3.heap.objs.size := fun b hb => by
    have eb : b = it := by simpa using hb
    rw [eb]
    refine ⟨⟨by rw [upd_ne nI]; exact n2, f2.2⟩, ?_⟩
    rw [eh3, Heap.size_push]
    exact Nat.lt_succ_of_lt lt2
  have st3 : s3.heap.IsListIter it a 0 := st2.at fun o e => by
    rw [eh3]
    exact Heap.get?_push_of_some _ e
  have I4 := block_start I3 ok nd fp3
  show codeAny _ _ (.compStart (.ListComp elt [⟨tg, iter, ifs, 0⟩] scope pos) 0 (.ref it) (.ref Dl) (compEnvC scope (cellsFrom (s3.heap.objs.size + 1) scope.names (cloFrom X.env.cells scope.names [])) s3.heap.objs.size X.env))
    (compPost (model X.prog X.w) X.A X.xe none (EP X pins σ Q) (.ref Dl) s3.heap.objs.size) { s3 with heap := pushCells (s3.heap.push { cls := .type "dict", data := .dict #[] }) scope.names }
  generalize eC : s3.heap.objs.size = Ca at I4 ⊢
  generalize ecl : cellsFrom (Ca + 1) scope.names (cloFrom X.env.cells scope.names []) = clos at I4 ⊢
  have pg := hg s3 (upd H2 Dl (.lst [])) Ca clos [it]
  have pt := ht s3 (upd H2 Dl (.lst [])) Ca clos [it]
  have pe := he s3 (upd H2 Dl (.lst [])) Ca clos [it]
  generalize ece : compEnvC scope clos Ca X.env = ce at I4 pg pt pe ⊢
  have locC : ce.locals = Ca := by
    subst ece
    rfl
  generalize eH3 : upd H2 Dl (.lst []) = H3 at I3 I4 pg pt pe w0 fp3
  generalize es4 : ({ s3 with heap := pushCells (s3.heap.push { cls := .type "dict", data := .dict #[] }) scope.names } : Shared) = s4 at I4 ⊢
  have st4 : s4.heap.IsListIter it a 0 := st3.at fun o e => by
    rw [← es4]
    exact pushCells_keeps _ _ _ _ (Heap.get?_push_of_some _ e)
  -- the iterator stays out of reach
  have own1 : ∀ {σ' : L2.St} {H' : Hp} {s' : Shared}, Inv (X.blk s3 H3 scope ce [it]) [] σ' H' s' → H' it = none → FpOk (X.blk s3 H3 scope ce [it]) [] H' it := fun {σ' H' s'} J n => by
    have mi : it ∈ [it] := List.mem_cons_self
    exact ⟨n, (J.ok.exf it mi).1, J.ok.exfs it mi, .inl mi, fun x c e => (J.ok.exf it mi).2 x c e, fun p hp => absurd (show p ∈ ([] : List (Addr × Obj)) ++ [] from hp) (by simp)⟩
  -- the handled error stays as it is
  have zI := I3.pin zp (List.mem_append_left _ zm)
  have zit : zp.1 ≠ it := (fp3 it List.mem_cons_self).1.2.2.2.2.2 zp (List.mem_append_left _ zm)
  have zst : zp.1 ∉ frs X.stack := fun m => (List.mem_cons.mp (I3.stkSub zp.1 m)).elim zI.2.2.1 zI.2.2.2.1
  have hotAt : ∀ {σ' : L2.St} {H' : Hp} {s' : Shared}, Inv (X.blk s3 H3 scope ce [it]) [] σ' H' s' → HotAt X.A zp.1 s'.heap := fun {σ' H' s'} J =>
    ⟨zh, zp.2, zv, J.base.keep zp.1 zp.2 zI.1 zI.2.1 zst (fun m => zit (by simpa using (show zp.1 ∈ [it] from m))), zd, zc⟩
  have loop : codeAny (model X.prog X.w) X.A (.compLoop (.ListComp elt [⟨tg, iter, ifs, 0⟩] scope pos) 0 (.ref it) (.ref Dl) ce) (compPost (model X.prog X.w) X.A X.xe none (EP X pins σ Q) (.ref Dl) Ca) s4 := by
    refine compLoop_any (fun n s' => ∃ i H', Inv (X.blk s3 H3 scope ce [it]) [] (wipe σ (own.map (·.2))) H' s' ∧ s'.heap.IsListIter it a i ∧ H' it = none ∧ W i n H') ?_ m0 ⟨0, H3, I4, st4, (fp3 it List.mem_cons_self).1.1, w0⟩
    rintro n s5 ⟨i, H5, I5, st5, n5, w5⟩
    obtain ⟨f0, f1, f2', f3, f4, f5⟩ := own1 I5 n5
    rcases turn i n H5 w5 with ⟨⟨ys, hy, hle⟩, fin⟩ | ⟨⟨ys, y0, hy, hy0⟩, Nx, hNx, step⟩
    · obtain ⟨its, rvs, pl, hz⟩ := I5.list hy
      have hl := rvs.length
      refine listEndHot (hotAt I5) st5 pl.isList (by simp; omega) zit fun h6 k6 => ?_
      have I6 : Inv (X.blk s3 H3 scope ce [it]) [] (wipe σ (own.map (·.2))) H5 { s5 with heap := h6 } := I5.turned (t' := s5.toks) (fun b o hb e => k6 b o hb e) f0 f1 f3 f4 f5
      have I7 : Inv X pins σ H5 { s5 with heap := h6 } := I3.call' (ch := [it]) I6.os I6.base I6.hok I6.bare fun b hb =>
        ⟨(fp3 b hb).1.2.2.2.1, (fp3 b hb).1.2.1, (fp3 b hb).1.2.2.2.2.1, (fp3 b hb).1.2.2.2.2.2⟩
      have nC : H5 Ca = none := by
        have z : H5 ce.locals = none := I6.free
        rw [locC] at z
        exact z
      obtain ⟨m, hm, _⟩ := I6.loc
      have hm : h6.Ns ce.locals m := hm
      rw [locC] at hm
      obtain ⟨c0, c1, c2, c3, c4, c5⟩ := I3.fpOk (H' := H5) (b := Ca) (Nat.le_of_eq eC) nC
      refine ⟨m, hm, fun h'' sb => ⟨.ref Dl, H5, I7.turned (t' := s5.toks) (fun b o hb e => (sb.2 b hb).trans e) c0 c1 c3 c4 c5, rfl, fin⟩⟩
    · obtain ⟨its, rvs, pl, hz⟩ := I5.list hy
      obtain ⟨u, hu, ru⟩ := rvs.get hy0
      refine wpAny_pyNext_list_item st5 pl.isList (x := u) (by simpa using hu) fun h6 st6 sb6 => ?_
      have I6 : Inv (X.blk s3 H3 scope ce [it]) [] (wipe σ (own.map (·.2))) H5 { s5 with heap := h6 } := I5.turned (t' := s5.toks) (fun b o hb e => (sb6.2 b hb).trans e) f0 f1 f3 f4 f5
      obtain ⟨oi, gi, ci, di⟩ := id st6
      refine go_of (s := { s5 with heap := h6 }) gi ci di (by decide) ?_
      have pinned := I6.pinned (fp := [it]) (fun b hb => by
        have eb : b = it := by simpa using hb
        rw [eb]
        exact own1 I6 n5) (fun b hb => by
        have eb : b = it := by simpa using hb
        rw [eb]
        exact ⟨oi, gi, fun v z => by rw [di] at z; cases z⟩)
      refine thnF (pg.run _ { s5 with heap := h6 } _ H5 y0 u _ pinned ru (step y0 H5 ⟨rfl, fun zs hzs => by rw [I5.list_inj hzs hy]; exact hy0⟩)) fun _ s8 ⟨σ8, H8, I8, hw8, q8⟩ => ?_
      refine thnF (pt.run _ s8 σ8 H8 _ I8 q8) fun b s9 ⟨H9, I9, q9⟩ => ?_
      have again : ∀ {s' : Shared} {H' : Hp}, Inv (X.blk s3 H3 scope ce [it]) ([] ++ pinsAt [it] h6) σ8 H' s' → Nx H' →
          ∃ m, m < n ∧ ∃ i H', Inv (X.blk s3 H3 scope ce [it]) [] (wipe σ (own.map (·.2))) H' s' ∧ s'.heap.IsListIter it a i ∧ H' it = none ∧ W i m H' := fun {s' H'} J nx => by
        obtain ⟨m', lt', w'⟩ := hNx H' nx
        have pz := J.pin (it, oi) (List.mem_append_right _ (List.mem_append_right _ (mem_pinsAt (fp := [it]) List.mem_cons_self gi)))
        have len8 : (wipe σ (own.map (·.2))).length = σ8.length := by rw [← hw8, wipe_length]
        refine ⟨m', lt', i + 1, H', (J.unpinned (pins := [])).weak len8 (fun k v e => ?_), st6.at (fun o e => ?_), pz.2.1, w'⟩
        · rw [← hw8] at e
          exact (wipe_some e).1
        · have e' : o = oi := Option.some.inj ((show h6.get? it = some o from e).symm.trans gi)
          rw [e']
          exact pz.1
      cases b with
      | false =>
        simp only [Bool.false_eq_true, if_false] at q9 ⊢
        exact again I9 q9
      | true =>
        simp only [if_true] at q9 ⊢
        refine thnF (pe.run _ s9 σ8 H9 _ I9 q9) fun v s10 ⟨yv, H10, I10, r10, acc, hD10, hz10, nx⟩ => ?_
        exact app_ok (X := X.blk s3 H3 scope ce [it]) I10 hD10 hz10 r10 fun s11 I11 => again I11 nx
  exact codeAny_compStart_list loop (wpAny_pyIter_listiter st4 loop)
end
end Fh
end
section
set_option Elab.async false
set_option linter.all false
set_option maxRecDepth 100000
set_option maxHeartbeats 2000000
/-! isinstance of an error that keeps what it is told for. -/
namespace Fh
open PySem PySem.Spec PySem.Calls PyProof.Rows PySem.W
section
variable {prog : Program} {w : World} {A : Around} {E : Value → Shared → Prop} {s : Shared} {K : Frag} {x D : Addr} {ox : Obj} {od : Option Obj}
theorem findOwnCls (hd : hasDictIn K D = true) (ha : findIn K (.ref D) "__class__" = some (some (.builtin "object.__class__"))) (hn : specialIn K (.builtin "object.__class__") "__get__" = some (some (.builtin "getset_descriptor.__get__")))
    (ht : takesIn K (.builtin "object.__class__") = some true) : findObj K D od "__class__" = some (.bind (.builtin "getset_descriptor.__get__") (.builtin "object.__class__")) := by
  obtain ⟨cd, hc, _⟩ := any_some hd
  unfold findObj
  rw [hc, Option.bind_some, ha, Option.bind_some]
  simp [hn, ht]
/-- .__class__ of it -/
theorem clsOfErr {Q : Option Value → Shared → Prop} (C : L2.ExcC K D) (X : K.In s.heap) (I : InstAt s.heap x ox D od) (h : Q (some (.ref D)) { s with toks := s.toks + 1 }) : wpAny (model prog w) A (getAttr? (.ref x) "__class__") Q E s := by
  have hf := findOwnCls (od := od) C.hd C.ha C.hn C.ht
  obtain ⟨hp, g, d, t, os⟩ := s
  have T0 := I.type (M := model prog w)
  have T1 := looks_findIn (M := model prog w) X C.hg
  have T2 := looks_findIn (M := model prog w) X C.hk
  have T3 := looks_find (M := model prog w) X I hf
  have sb : Looks (model prog w) hp (isInstance (.ref x) (.type "BaseException")) true := T0.andThen (looks_subIn X C.hs)
  have z1 : (Value.builtin "BaseException.__getattribute__" == Value.builtin "object.__getattribute__") = false := by decide +kernel
  have z2 : (onTheHeap (Value.ref D) && Value.builtin "BaseException.__getattribute__" == Value.builtin "object.__getattribute__") = false := by
    rw [z1]
    rfl
  unfold getAttr? getAttrBy? getAttrBy
  refine wpAny_bind (wpAny_mkText (wpAny_bind (wpAny_attempt (wpAny_holding (wpAny_bind (T0.at (wpAny_bind (T1.at ?_))))))))
  show wpAny _ _ (if (onTheHeap (Value.ref D) && Value.builtin "BaseException.__getattribute__" == Value.builtin "object.__getattribute__") = true then _ else _) _ _ _
  rw [z2, if_neg Bool.false_ne_true]
  unfold getAttrByItsOwn hookBefore
  refine wpAny_bind ?_
  rw [if_pos (show onTheHeap (Value.ref D) = true from rfl)]
  refine T2.at (wpAny_bind (wpAny_attempt (wpAny_holding ?_)))
  unfold callGetattribute
  rw [show (false && onTheHeap (Value.builtin "BaseException.__getattribute__")) = false from rfl, if_neg Bool.false_ne_true]
  unfold boundAndCalled
  rw [PySem.F.excAttr_ValueError.ga.bind (.ref x)]
  refine wpAny_bind (wpAny_pure ?_)
  show wpAny _ _ (call (.builtin "BaseException.__getattribute__") [.ref x, .str "__class__" t]) _ _ _
  refine wpAny_call (codeAny_call_builtin PySem.F.excAttr_ValueError.ga.plain PySem.F.entry_bexc_ga
    (@check_slot (model prog w) _ _ ⟨hp, g, d, t + 1, os⟩ "BaseException.__getattribute__" "BaseException" "__getattribute__" (.ref x) [.str "__class__" t] [] _ (by decide +kernel) (by decide +kernel) sb
      (PySem.F.args_bexc_ga (.ref x) (.str "__class__" t)) ?_))
  unfold Builtin.«object.__getattribute__»
  refine wpAny_bind (wpAny_of_eq (a := ((Value.ref x : Value), [Value.str "__class__" t])) (by first
    | rfl
    | (simp only [slotArgs]; rfl)) ?_)
  refine wpAny_bind (wpAny_pure (wpAny_bind (T0.at (wpAny_bind (T3.at ?_)))))
  show wpAny _ _ (holding [Value.builtin "object.__class__"] (call (.builtin "getset_descriptor.__get__") [.builtin "object.__class__", .ref x, .ref D]) >>= ret) _ _ _
  refine wpAny_bind (wpAny_holding (wpAny_call (class_get (s := ⟨hp, g, d, t + 1, os⟩) (ox := ox) (od := od) X I C.hm (wpAny_pure ?_))))
  show wpAny _ _ (handedOut (.ref D)) _ _ _
  rw [handedOut_of (v := .ref D) rfl]
  first
    | exact wpAny_pure (wpAny_pure h)
    | exact wpAny_pure h
    | exact wpAny_pure (wpAny_bind (wpAny_pure (wpAny_pure h)))
theorem kitErr (C : L2.ExcC K D) : KitX K (.ref x) (.ref D) (fun h => InstAt h x ox D od) where
  ty := fun _ _ _ I => I.type
  it := fun _ _ X _ => by
    obtain ⟨cd, hc, _⟩ := any_some C.hd
    unfold clsIn at hc
    split at hc
    · rename_i c1 d1 cd1 sl1 ho
      intro A1 Q1 E1 s1 k q
      unfold isType loadHead
      exact wpAny_bind (wpAny_loadPart (k _ _ (X _ _ ho)) (wpAny_pure q))
    · cases hc
  ne := fun h tp dd its n sl X htp => by
    obtain ⟨cd, hc, _⟩ := any_some C.hd
    refine Bool.eq_false_iff.mpr fun q => ?_
    have e : D = tp := Value.ref.inj (beq_iff_eq.mp q)
    rw [← e] at htp
    unfold clsIn at hc
    split at hc
    · rename_i c1 d1 cd1 sl1 ho
      cases (X _ _ ho).symm.trans htp
    · cases hc
  ca := fun X I k => clsOfErr C X I k
end
end Fh
end
section
set_option Elab.async false
set_option linter.all false
set_option maxRecDepth 100000
set_option maxHeartbeats 2000000
/-! Calls while an error is handled, told of the very error. -/
namespace Fh
open PySem PySem.Spec PyProof.Rows L2 HotX
section
variable {P : Program} {w : World} {K : PySem.W.Frag} {mg : Str → Option Value} {base : Heap} {x qual : Str} {params : Arguments} {body : List Stmt} {scope : Scope} {N ps : List Str} {f : Addr} {fd : FuncData} {k : Nat} {CX : CXT}
/-- a def run while p is handled -/
theorem runHot (FD : FunD K x qual params body scope [] [] f fd) (S : FnScope N ps scope) {A : Around} {outer : List PySem.Env} {s : Shared} {H : Hp} {args : Args} {us : List Value} {vs : List V} {Q : VK} {E : XK} {p : Addr × Obj} (room : L2H.RoomH (k + 1) A)
    (pin : L2H.PinOk outer H s p) (e0 : Env0 P w K mg base A outer s H) (bd : BindsTo s fd args (ps.zip us)) (rv : Vals vs us) (len : vs.length = ps.length)
    (run : ∀ cdv, L2H.RoomH k (A.deeper (envOfC qual scope s.heap.objs.size f cdv)) → ∃ t, PSs (L2H.cxH CX P w K mg base N qual scope f cdv A outer s H E p) body t ∧ t { nx := fun _ H' => Q .non H', rt := Q } (L2.start N vs) H) :
    codeAny (model P w) A (.call (.ref f) args) (CR CX outer P w H s Q E) s := by
  obtain ⟨oc, od, dV, kV, doc, pm, an, cdv, ct, osl, rfl, lk, code, _, _⟩ := FD.ex
  have kin : K.In s.heap := e0.mod.kin.keeps fun b o z => (e0.bs b o z).1
  refine codeAny_call_function room.depth (kin _ _ lk) rfl S.co S.gen rfl (PySem.W.codeRec_of kin code) (bd _ _ _ _ ?_)
  refine wpAny_newFunctionEnv_cells S.kind (fun ⟨n, v⟩ hy => ?_) fun env he s1 new => ?_
  · rcases S.par n (List.of_mem_zip hy).1 with z | z
    · exact .inl z
    · exact .inr ⟨z, PySem.W.cellsFrom_some _ _ _ (.inl z)⟩
  · subst he
    refine ⟨(e0.mod.nolimit.keeps fun b o z => (e0.bs b o z).1).keeps new.toInCall.keep, codeAny_func ?_⟩
    obtain ⟨t, ht, q⟩ := run cdv (room.deeper _)
    have J := L2H.inv_startH (CX := CX) (E := E) S pin e0 len rv new
    refine wpAny_mono (ht.run [] s1 (L2.start N vs) H _ J q) (fun fl s' hs => ?_) fun e s' hs => hs
    cases fl with
    | ret u =>
      obtain ⟨v, σ', H', J', r', q'⟩ := hs
      exact ⟨v, H', J'.os, J'.bare, J'.base, J'.hok, r', q'⟩
    | next =>
      obtain ⟨σ', H', J', q'⟩ := hs
      exact ⟨.non, H', J'.os, J'.bare, J'.base, J'.hok, rfl, q'⟩
    | brk =>
      obtain ⟨_, _, _, q'⟩ := hs
      exact q'.elim
    | cont =>
      obtain ⟨_, _, _, q'⟩ := hs
      exact q'.elim
end
section
variable {X : Cx} {F : Fx} {C : Str → Addr} {ρ : Rho} {c c1 c2 : HO} {d : D} {ds : List D} {e : Expr} {es : List Expr} {pos p4 : Pos} {x qual : Str} {params : Arguments} {body : List Stmt} {scope : Scope} {N ps : List Str} {f : Addr} {fd : FuncData} {k : Nat} {p : Addr × Obj}
/-- x(..) while p is handled -/
theorem ev_hot (hot : L2H.Hot1 X.A p) (hp : p ∈ X.pn) (FD : FunD X.K x qual params body scope [] [] f fd) (S : FnScope N ps scope) (hm : X.mg x = some (.ref f)) (bd : Binds X.K fd ps []) (room : L2H.RoomH (k + 1) X.A) (hg : Gl X x)
    (args : EvA X F (e :: es) ρ c ds c1) (len : ds.length = ps.length)
    (run : ∀ cdv (s : Shared) (H : Hp) (Sa : List Addr), (∀ b o, F.H0 b = some o → b ≠ F.j → (∀ ps, o ≠ .tbl ps) → ∃ u, s.heap.get? b = some u) → L2H.RoomH k (X.A.deeper (envOfC qual scope s.heap.objs.size f cdv)) →
      Sxs ⟨L2H.cxH (L2N.CX X.prog X.w) X.prog X.w X.K X.mg X.base N qual scope f cdv X.A X.stack s H (fun _ _ _ => False) p, fxOf X.K F.T H Sa F.j, fun _ _ _ _ => False, C⟩ body (rho0 N ds) c1 (.ret d c2))
    (h1 : (x == ("__debug__" : Str)) = false := by kernel_rfl) (h2 : starEach (e :: es) X.env = (false, eval e X.env) :: starEach es X.env := by kernel_rfl) (h3 : (backTo pos (starEach es X.env)).any (·.1) = false := by kernel_rfl) :
    Ev X F (.Call (.Name x p4) (e :: es) [] pos) ρ c d c2 := fun hK L σ H o E Q q => by
  refine wE_of (X := X) (t := wE X _) pe_w (fun pins s I => ?_)
  refine wpAny_Call_Name_kw (ld_glob I hg hm ?_ h1)
  refine PySem.W.callWith_K (h₀ := X.base) I.ok.mod.kin FD.kp (thn (pa_w.run pos pins s σ H _ I (args hK L σ H o E (fun vs H1 => Stp F.j H H1 ∧ Ok F L c1 H1 ∧ Reps F.K F.j (off (L ++ F.S0) H1) vs ds) fun vs H1 a b r => ⟨a, b, r⟩)) fun us s1 ⟨vs, H1, I1, r1, st1, o1, rp⟩ => ⟨I1.kIn, ?_⟩) h2 h3
  have len1 : vs.length = ps.length := by rw [rp.length, len]
  have b1 := bd s1 us I1.kIn (by rw [List.append_nil, ← r1.length, len1])
  rw [List.append_nil] at b1
  have P1 := I1.pin p (List.mem_append_left _ hp)
  have pin : L2H.PinOk X.stack H1 s1 p := ⟨P1.1, P1.2.1, fun m => (List.mem_cons.mp (I1.stkSub p.1 m)).elim P1.2.2.1 P1.2.2.2.1, P1.2.2.2.2⟩
  refine wpAny_call (codeAny_mono (runHot (CX := L2N.CX X.prog X.w) (args := ⟨us, []⟩) (Q := Q) (E := fun _ _ _ => False) (p := p) FD S room pin I1.env0 b1 r1 len1 fun cdv rm => ?_) fun r s' z => ?_)
  · refine ⟨_, pss_w, run cdv s1 H1 (L ++ F.S0) (fun b u hu nj nt => ?_) rm ⟨rfl, takesN0⟩ (fun _ => none) (L2.start N vs) H1 ⟨[], ?_, env0 (F := fxOf X.K F.T H1 (L ++ F.S0) F.j) (by rw [hK]; exact rp), fun a o z => by cases z⟩ _ fun v H' o' r' => ?_⟩
    · exact objOk_get (I1.hok b u (o1.st.keep b u nj hu nt))
    · rw [hK]; exact o1.call
    · rw [hK] at o' r'
      exact q v H' (st1.trans o'.st) (o1.back o') r'
  · cases r with
    | error er => exact (passNL pins σ H1 s1 er s' I1 z)
    | ok fl =>
      cases fl with
      | ret u => exact I1.after z
      | next => exact z.elim
      | brk => exact z.elim
      | cont => exact z.elim
end
section
variable {X : Cx} {F : Fx} {ρ : Rho} {c c1 : HO} {a D dd : Addr} {oe : Obj} {e : Expr} {p p2 p3 pos : Pos} {n : Str} {Cn : Addr} {b : Bool}
/-- isinstance(the error that is handled, a class) -/
theorem call_isErr (C : ExcC X.K D) (hm : (a, oe) ∈ X.pn) (hz : Zc (.ref D) (some dd) oe) (hf : ∃ vs, oe.data = .fields vs) (hd : ∃ o, X.s_0.heap.get? dd = some o) (hex : X.ex = []) :
    CallR X (.builtin "isinstance") (fun xs H Q => ∃ (c : V) (cv : Value) (b : Bool), xs = [.ref a, c] ∧ (∀ u, RelV c u → u = cv) ∧ PySem.W.kitOne X.K (.ref D) cv = some b ∧ Q (.bl b) H) := by
  intro pins s σ H xs us Q I r h
  obtain ⟨c, cv, b, rfl, hcv, e, q⟩ := h
  cases r with
  | cons rx rr =>
    cases rr with
    | cons rt rr =>
      cases rr
      cases rx
      have ec := hcv _ rt
      subst ec
      have ga := (I.pin (a, oe) (List.mem_append_left _ hm)).1
      obtain ⟨vs, hv⟩ := hf
      obtain ⟨o0, h0⟩ := hd
      obtain ⟨od, ho⟩ := I.base.there dd o0 h0 (by rw [hex]; simp)
      have J : PySem.W.InstAt s.heap a oe D (some od) := ⟨ga, hz.1, by unfold PySem.W.notCls; rw [hv] <;> rfl, by rw [hz.2]; exact ho⟩
      exact PySem.W.kia_one (kitErr C) I.kIn J e (fun z => nomatch z) fun tk => ⟨.bl b, H, I.kept (t' := tk) fun _ _ z => z, rfl, q⟩
theorem ev_isErr (C : ExcC X.K D) (hm : (a, oe) ∈ X.pn) (hz : Zc (.ref D) (some dd) oe) (hf : ∃ vs, oe.data = .fields vs) (hd : ∃ o, X.s_0.heap.get? dd = some o) (hex : X.ex = [])
    (hg : Gl X "isinstance") (hb : X.mg "isinstance" = none) (he : Ev X F e ρ c (.ob (.ref a)) c1) (gn : Gl X n) (mn : X.mg n = some (.ref Cn)) (dn : (n == ("__debug__" : Str)) = false) (kit : PySem.W.kitOne X.K (.ref D) (.ref Cn) = some b)
    (h1 : starEach [e, .Name n p2] X.env = (false, eval e X.env) :: starEach [.Name n p2] X.env) : Ev X F (.Call (.Name "isinstance" p) [e, .Name n p2] [] pos) ρ c (.bl b) c1 :=
  ev_callB (call_isErr C hm hz hf hd hex) hg hb (by decide +kernel) (ea_cons he (ea_cons (d := .ob (.ref Cn)) (fun hK L σ H o E Q q => wE_of (pe_glob (v := .ref Cn) gn mn rfl dn) (q _ H (Stp.refl _ _) o (.ob _))) ea_nil rfl) h1)
    (fun hK L c H vs o r Q q => by
      cases r with
      | cons r1 r2 =>
        cases r2 with
        | cons r2 r3 =>
          cases r3
          cases r2
          cases r1
          exact ⟨_, .ref Cn, b, rfl, fun u hu => hu, kit, q _ H (Stp.refl _ _) o (.bl _)⟩) (by decide) (by decide) h1 rfl
end
end Fh
end
section
set_option Elab.async false
set_option linter.all false
set_option maxRecDepth 100000
set_option maxHeartbeats 2000000
/-! What is told of an error: the class's name, what it was told for. -/
namespace Fh
open PySem PySem.Spec PyProof.Rows L2 HotX
/-- the facts of the classes: k is raised, ns are all names -/
structure ClsF (K : PySem.W.Frag) (mg : Str → Option Value) (C : Str → Addr) (ns : List Str) (k : Str) : Prop where
  exc : ExcC K (C k)
  xf : XfC K (C k)
  noW : PySem.W.findIn K (.ref (C k)) "what" = some none
  kit : ∀ n ∈ ns, PySem.W.kitOne K (.ref (C k)) (.ref (C n)) = some (decide (n = k))
  gl : ∀ n ∈ ns, mg n = some (.ref (C n))
  dbg : ∀ n ∈ ns, (n == ("__debug__" : Str)) = false
/-- ('Name', isinstance(error, Name)) -/
def rowOf (er : Str) : Expr → Option Str
  | .Tuple es _ _ => match es with
    | [.Constant (.str n) _ _, .Call (.Name i _) [.Name e _, .Name m _] [] _] => if i = ("isinstance" : Str) ∧ e = er ∧ m = n then some n else none
    | _ => none
  | _ => none
theorem rowOf_ok {er n : Str} {e : Expr} (h : rowOf er e = some n) : ∃ kk p1 p2 p3 p4 p5 kt p6, e = .Tuple [.Constant (.str n) kk p1, .Call (.Name "isinstance" p2) [.Name er p3, .Name n p4] [] p5] kt p6 := by
  unfold rowOf at h
  split at h
  · split at h
    · split at h
      · rename_i z
        cases h
        obtain ⟨rfl, rfl, rfl⟩ := z
        exact ⟨_, _, _, _, _, _, _, _, rfl⟩
      · cases h
    · cases h
  · cases h
def rowsOf (er : Str) : List Expr → Option (List Str)
  | [] => some []
  | e :: es => match rowOf er e with
    | some n => match rowsOf er es with
      | some ns => some (n :: ns)
      | none => none
    | none => none
abbrev rowD (k n : Str) : D := .tup [.str n, .bl (decide (n = k))]
section
variable {X : Cx} {F : Fx} {C : Str → Addr} {ρ : Rho} {c c1 : HO} {a dd : Addr} {oe : Obj} {k er : Str} {i : Nat}
theorem ea_rows {all : List Str} {K0 : PySem.W.Frag} {mg0 : Str → Option Value} (hX : ClsF K0 mg0 C all k) (eK : X.K = K0) (em : X.mg = mg0) (hm : (a, oe) ∈ X.pn) (hz : Zc (.ref (C k)) (some dd) oe) (hf : ∃ vs, oe.data = .fields vs) (hd : ∃ o, X.s_0.heap.get? dd = some o) (hex : X.ex = []) (hg : Gl X "isinstance") (hb : X.mg "isinstance" = none)
    (hr : ρ[i]? = some (some (.fr (.ob (.ref a))))) (hv : varOk X.N X.env.scope i er = true) (hgl : ∀ n ∈ all, Gl X n) : ∀ {es : List Expr} {ns : List Str}, rowsOf er es = some ns → (∀ n ∈ ns, n ∈ all) → EvA X F es ρ c (ns.map (rowD k)) c
  | [], ns, h, _ => by
    cases h
    exact ea_nil
  | e :: es, ns, h, ha => by
    subst eK em
    unfold rowsOf at h
    split at h
    · rename_i n hn
      split at h
      · rename_i ns' h'
        cases h
        obtain ⟨kk, p1, p2, p3, p4, p5, kt, p6, rfl⟩ := rowOf_ok hn
        have mn := ha n List.mem_cons_self
        exact ea_cons (ev_tup (ea_cons ev_str (ea_cons (ev_isErr hX.exc hm hz hf hd hex hg hb (ev_var i hr hv) (hgl n mn) (hX.gl n mn) (hX.dbg n mn) (hX.kit n mn) rfl) ea_nil rfl) rfl) (sz_le (by show (2 : Nat) ≤ 100000; decide)))
          (ea_rows hX rfl rfl hm hz hf hd hex hg hb hr hv hgl h' fun m hm' => ha m (List.mem_cons_of_mem _ hm')) rfl
      · cases h
    · cases h
theorem evn_lcH {elt tg iter : Expr} {ifs : List Expr} {scope : Scope} {own : List (Str × Nat)} {pos : Pos} {g : TG} {es : List D} {c3 : HO} (hot : L2H.HotC X) (hr : X.K = F.K → LcRun X F (iList X.K (wE X iter)) g (wBT X scope ifs) (wBV X scope elt) (own.map (·.2)) ρ c es c3) (hl : ifs.length ≤ 1)
    (ok : blkC X.N X.env.scope scope own = true) (hg : ∀ (s : Shared) (H : Hp) (C : Addr) (cl : List (Str × Addr)) (fp : List Addr), PG (X.blk s H scope (compEnvC scope cl C X.env) fp) tg g) (hN : X.N.Nodup) (hs : ∀ x, foldedSetIterable iter X.env x = pure x) :
    EvN X F (.ListComp elt [⟨tg, iter, ifs, 0⟩] scope pos) ρ c es c3 := fun hK L σ H o E Q q =>
  wE_of (pe_lcH hot hN pe_w (blkOk_by ok) hg (pts_bt hl) pe_bv hs) (hr hK L σ H o E Q q)
/-- [row[0] for row in rows if row[1]] -/
theorem lc_rows {scope : Scope} {ir : Nat} {rw : Str} {p1 p2 p3 p4 p5 p6 : Pos} {k1 k2 : Nat} {ρw : Rho} (hi : ir < ρw.length) (hv : varOk X.N (relS scope X.env.scope) ir rw = true) : ∀ (ns : List Str),
    LcRel F (gName ir) [ir] ρw (BT X F scope [.Subscript (.Name rw p4) (.Constant (.int 1) k2 p5) p6]) (BV X F scope (.Subscript (.Name rw p1) (.Constant (.int 0) k1 p2) p3)) (ns.map (rowD k)) c ((ns.filter (· = k)).map D.str) c
  | [] => .done c
  | n :: ns => by
    have at1 : (ρw.set ir (some (.fr (rowD k n))))[ir]? = some (some (.fr (rowD k n))) := List.getElem?_set_self hi
    have t1 : BT X F scope [.Subscript (.Name rw p4) (.Constant (.int 1) k2 p5) p6] (ρw.set ir (some (.fr (rowD k n)))) c (decide (n = k)) c := fun s H C cl fp =>
      et_val (ev_ix (i := 1) (d := .bl (decide (n = k))) (ev_var ir at1 hv).l ev_int rfl rfl) (fun _ => rfl)
    by_cases e : n = k
    · have e1 : ((n :: ns).filter (· = k)).map D.str = .str n :: (ns.filter (· = k)).map D.str := by
        rw [List.filter_cons_of_pos (by simpa using e)]
        rfl
      rw [e1]
      rw [decide_eq_true e] at t1
      exact .yes (bindc_name hi List.mem_cons_self) t1 (fun s H C cl fp => ev_ix (i := 0) (d := .str n) (ev_var ir at1 hv).l ev_int rfl rfl) (lc_rows hi hv ns)
    · have e1 : ((n :: ns).filter (· = k)).map D.str = (ns.filter (· = k)).map D.str := by
        rw [List.filter_cons_of_neg (by simpa using e)]
      rw [e1]
      rw [decide_eq_false e] at t1
      exact .no (bindc_name hi List.mem_cons_self) t1 (lc_rows hi hv ns)
theorem only_one {k : Str} : ∀ {ns : List Str}, ns.Nodup → k ∈ ns → ns.filter (· = k) = [k]
  | n :: ns, nd, h => by
    obtain ⟨h1, h2⟩ := List.nodup_cons.mp nd
    by_cases e : n = k
    · rw [List.filter_cons_of_pos (by simpa using e), e]
      have : ns.filter (· = k) = [] := List.filter_eq_nil_iff.mpr fun m hm z => h1 (by
        have z' : m = k := by simpa using z
        rw [e, ← z']
        exact hm)
      rw [this]
    · rw [List.filter_cons_of_neg (by simpa using e)]
      refine only_one h2 ?_
      rcases List.mem_cons.mp h with z | z
      · exact absurd z.symm e
      · exact z
end
end Fh
end
section
set_option Elab.async false
set_option linter.all false
set_option maxRecDepth 100000
set_option maxHeartbeats 2000000
/-! The suite that tells an error. -/
namespace Fh
open PySem PySem.Spec PyProof.Rows L2 HotX
theorem join_one {a k : Str} : Txt.join a [k] = k := rfl
/-- the suite's places -/
structure SuP where
  p1 : Pos
  p2 : Pos
  p3 : Pos
  p4 : Pos
  p5 : Pos
  p6 : Pos
  p7 : Pos
  p8 : Pos
  p9 : Pos
  pa : Pos
  pb : Pos
  pc : Pos
  pd : Pos
  pe : Pos
  pf : Pos
  pg : Pos
  ph : Pos
  pi : Pos
  k1 : Nat
  k2 : Nat
  k3 : Nat
  k4 : Nat
  k5 : Nat
/-- return (' '.join([row[0] for row in classes(error) if row[1]]), error.what) -/
def suiteS (P : SuP) (cf er rw : Str) (scope : Scope) : Stmt :=
  .Return (some (.Tuple [.Call (.Attribute (.Constant (.str " ") P.k1 P.p1) "join" P.p2) [.ListComp (.Subscript (.Name rw P.p3) (.Constant (.int 0) P.k2 P.p4) P.p5) [⟨.Name rw P.p6, .Call (.Name cf P.p7) [.Name er P.p8] [] P.p9, [.Subscript (.Name rw P.pa) (.Constant (.int 1) P.k3 P.pb) P.pc], 0⟩] scope P.pd] [] P.pe,
    .Attribute (.Name er P.pf) "what" P.pg] P.k4 P.ph)) P.pi
theorem suite_ok {Y : Cx} {F : Fx} {C : Str → Addr} {all : List Str} {k : Str} {a dd : Addr} {oe : Obj} {pn : List (Addr × Obj)} {vs : Array Value} {P : SuP} {cf er rw xq : Str} {scope csc : Scope} {ie ir : Nat} {cpar : Arguments} {cN : List Str} {fc : Addr} {cfd : FuncData} {es : List Expr} {cer : Str} {q1 q2 : Pos} {room : Nat}
    (hK : Y.K = F.K) (hX : ClsF Y.K Y.mg C all k) (nd : all.Nodup) (hk : k ∈ all) (kl : k.length ≤ 1000) (hz : L2N.Zn (.ref (C k)) (some dd) oe) (hf : oe.data = .fields vs)
    (hN : Y.N.Nodup) (hr : L2H.RoomH (room + 1) Y.A)
    -- the def that lists the classes
    (FD : FunD Y.K cf xq cpar [.Return (some (.List es q1)) q2] csc [] [] fc cfd) (S : FnScope cN [cer] csc) (hm : Y.mg cf = some (.ref fc)) (bd : Binds Y.K cfd [cer] []) (rows : rowsOf cer es = some all) (cv : varOk cN csc 0 cer = true) (clen : all.length ≤ 1000)
    (cgl : ∀ n ∈ all, csc.names.lookup n = some .globalImplicit) (cgi : csc.names.lookup ("isinstance" : Str) = some .globalImplicit) (hi : Y.mg "isinstance" = none)
    -- the place where it is called
    (gc : Gl Y cf) (dc : (cf == ("__debug__" : Str)) = false) (ve : varOk Y.N Y.env.scope ie er = true) (hir : Y.N[ir]? = some rw) (bk : blkC Y.N Y.env.scope scope [(rw, ir)] = true) (vr : varOk Y.N (relS scope Y.env.scope) ir rw = true) (lr : (relS scope Y.env.scope).names.lookup rw = some .local)
    (ln : (P.p2.endLine == P.pe.line) = true)
    {ρ : Rho} (hρ : ρ[ie]? = some (some (.fr (.ob (.ref a))))) (hrl : ir < ρ.length) {c : HO} {d : D} {σ : L2.St} {H : Hp} {v : V} {D0 : Ends} (o : Ok F [] c H) (E : Env F [] ρ σ H) (hx : ∃ fs, H dd = some (.xd fs) ∧ fs.lookup ("what" : Str) = some v) (ndd : dd ≠ F.j) (rv : Rep F.K F.j (off F.S0 H) v d) (there : ∃ fs, F.H0 dd = some (.xd fs))
    (q : ∀ v H', Ok F [] c H' → Rep F.K F.j (off F.S0 H') v (.tup [.str k, d]) → D0.rt v H') : wSs (Y.suite a ((a, oe) :: pn)) [suiteS P cf er rw scope] D0 σ H := by
  have hot1 : L2H.Hot1 (Y.suite a ((a, oe) :: pn)).A (a, oe) := ⟨rfl, vs, hf, hz.2.2 vs hf⟩
  have mem : (a, oe) ∈ (Y.suite a ((a, oe) :: pn)).pn := List.mem_cons_self
  have zc := hz.zc
  have hf' : ∃ vs, oe.data = .fields vs := ⟨vs, hf⟩
  -- the call
  have call : Ev (Y.suite a ((a, oe) :: pn)) F (.Call (.Name cf P.p7) [.Name er P.p8] [] P.p9) ρ c (.lst (all.map (rowD k))) c := by
    refine ev_hot (C := C) (p := (a, oe)) (ds := [.ob (.ref a)]) (k := room) hot1 mem FD S hm bd ⟨hr.dp, hr.un⟩ gc (ea_cons (ev_var ie hρ ve) ea_nil rfl) rfl (fun cdv s H Sa th rm => ?_) dc rfl rfl
    refine sxs_stop (sx_ret (ev_lst (ea_rows (X := L2H.cxH (L2N.CX Y.prog Y.w) Y.prog Y.w Y.K Y.mg Y.base cN xq csc fc cdv (Y.suite a ((a, oe) :: pn)).A (Y.suite a ((a, oe) :: pn)).stack s H (fun _ _ _ => False) (a, oe)) (i := 0) (all := all) (er := cer) (a := a) hX rfl rfl List.mem_cons_self zc hf' (th dd (.xd there.choose) there.choose_spec ndd (fun ps z => by cases z)) rfl cgi hi rfl cv (fun n hn => cgl n hn) rows fun n hn => hn) ?_)) rfl
    rw [List.length_map]
    exact sz_le (by omega)
  -- the list of names
  have lc : EvN (Y.suite a ((a, oe) :: pn)) F (.ListComp (.Subscript (.Name rw P.p3) (.Constant (.int 0) P.k2 P.p4) P.p5) [⟨.Name rw P.p6, .Call (.Name cf P.p7) [.Name er P.p8] [] P.p9, [.Subscript (.Name rw P.pa) (.Constant (.int 1) P.k3 P.pb) P.pc], 0⟩] scope P.pd) ρ c [.str k] c := by
    refine evn_lcH (own := [(rw, ir)]) (g := gName ir) ⟨(a, oe), hot1, mem⟩ (fun hK => ?_) (Nat.le_refl _) bk (fun s H Ca cl fp => ?_) hN (fun _ => rfl)
    · have e : [D.str k] = (all.filter (· = k)).map D.str := by rw [only_one nd hk]; rfl
      rw [e]
      exact lcrun_lst hK call (lc_rows (X := Y.suite a ((a, oe) :: pn)) (hi := by show ir < (wipeR ρ [ir]).length; unfold wipeR; rw [List.length_set]; exact hrl) vr all) (by
        rw [← e]
        exact Nat.lt_of_lt_of_le (show 1 < 100000 by decide) (sz_le (Nat.le_refl _)))
    · exact pg_name (X := (Y.suite a ((a, oe) :: pn)).blk s H scope (compEnvC scope cl Ca Y.env) fp) hN hir (.inl lr) (.inr lr)
  obtain ⟨w1, w2, w3, w4⟩ := varOk_ok ve
  refine wSs_of (pss_one (ps_ret (pe_tup (pa_cons (pe_join pe_str (pe_w (e := .ListComp _ _ _ _)) rfl rfl ln) (pa_cons (pe_xf hX.xf hX.noW zc hf' (pe_var (i := ie) w1 w2 w3 w4) rfl) pa_nil))))) ?_
  show tRet _ D0 σ H
  refine ⟨⟨_, rfl⟩, ?_⟩
  refine lc hK [] σ H o E _ fun p xs H1 hp st o1 hx1 rp => ?_
  have exs : xs = [k].map V.str := Reps.strs (ns := [k]) rp
  refine ⟨_, p, [k], rfl, rfl, .inl (SqL.of (by rw [← exs]; exact hx1)), by show k.length + 0 + 1 * 1 ≤ _; omega, ?_⟩
  obtain ⟨u, hu1, hu2⟩ := E.fr ie _ hρ
  cases hu2
  obtain ⟨fs, hx1', hxl⟩ := hx
  have hx2 := st.keep dd _ ndd hx1' (fun ps z => by cases z)
  refine ⟨.ref a, hu1, rfl, rfl, dd, _, v, rfl, hx2, hxl, ?_⟩
  refine ⟨by show 2 ≤ sizeLine; exact sz_le (by decide), fun p2 hp2 => ?_⟩
  have o1' : Ok F [] c H1 := o1.tail
  have rv1 : Rep F.K F.j (off F.S0 H1) v d := rv.stp o.jS st
  exact q _ _ (o1'.new hp2) (o1'.newT hp2 (.cons (.str k) (.cons rv1 .nil)))
end Fh
end
section
set_option Elab.async false
set_option linter.all false
set_option maxRecDepth 100000
set_option maxHeartbeats 2000000
/-! A thing that is called without arguments: what it does, told of the very state; a def that tells what it does. -/
namespace Fh
open PySem PySem.Spec PyProof.Rows L2 HotX
/-- cl, called at any later state at which the jar holds c, ends with r and leaves c' -/
structure Acts (P : Program) (w : World) (K : PySem.W.Frag) (mg : Str → Option Value) (base : Heap) (T : List (Addr × Str)) (C : Str → Addr) (n : Nat) (cl : Addr) (S : List Addr) (j : Addr) (fs : List Addr) (s0 : Shared) (H0 : Hp) (c : HO) (r : Res) (c' : HO) : Prop where
  at_ : PySem.W.FnAt cl s0.heap
  stay : ∀ (s : Shared) (H : Hp), Un fs [] H0 H s0.heap s.heap → PySem.W.FnAt cl s.heap
  run : ∀ (A : Around) (outer : List PySem.Env) (s : Shared) (H : Hp) (F : Fx) (Q : VK) (E : XK), Room n A → Env0 P w K mg base A outer s H → Un fs [] H0 H s0.heap s.heap → F.K = K → F.T = T → F.j = j → (∀ a ∈ F.S0, a ∈ S ∨ H0 a = none) → Stp j H0 H → Ok F [] c H → EndOk F C Q E c' r →
    codeAny (model P w) A (.call (.ref cl) ⟨[], []⟩) (CR (L2N.CX P w) outer P w H s Q E) s
/-- what is heard -/
def heardR : Res → D
  | .ok d => .tup [.str "told", d]
  | .ex k d => .tup [.str k, d]
section
variable {X : Cx} {P : Program} {w : World} {K : PySem.W.Frag} {mg : Str → Option Value} {base : Heap} {T : List (Addr × Str)} {C : Str → Addr} {n : Nat} {cl : Addr} {S : List Addr} {j : Addr} {s0 : Shared} {c c' : HO} {r : Res} {W : WX}
/-- x(), x a name for it -/
theorem wE_act {H0 : Hp} (B : Acts X.prog X.w X.K X.mg X.base T C n cl S j X.fs X.s_0 X.H_0 c r c') (hex : X.ex = []) (room : Room n X.A) (tk : L2N.Takes X W) {i : Nat} {a : Str} {p1 p2 : Pos} (hv : varOk X.N X.env.scope i a = true) {σ : L2.St} {H : Hp} {F : Fx} {Q : VK} (hσ : σ[i]? = some (some (.ref cl)))
    (hK : F.K = X.K) (hT : F.T = T) (hj : F.j = j) (hS : ∀ a ∈ F.S0, a ∈ S ∨ X.H_0 a = none) (st : Stp j X.H_0 H) (o : Ok F [] c H) (e : EndOk F C Q (WE W σ) c' r) : wE X (.Call (.Name a p1) [] [] p2) σ H Q := fun pins s I => by
  obtain ⟨w1, w2, w3, w4⟩ := varOk_ok hv
  refine wpAny_Call_Name_kw (thn ((pe_var (pos := p1) (i := i) w1 w2 w3 w4).run pins s σ H (fun v H1 => v = .ref cl ∧ H1 = H) I ⟨.ref cl, hσ, rfl, rfl⟩) fun u s1 ⟨v, H1, I1, r1, e1, e2⟩ => ?_)
  subst e1 e2
  obtain rfl : u = Value.ref cl := r1
  have un : Un X.fs [] X.H_0 H1 X.s_0.heap s1.heap := by
    have z := I1.base
    rw [hex] at z
    exact z
  refine PySem.W.callWith_F0 (B.stay s1 H1 un) ?_
  refine wpAny_call (codeAny_mono (B.run X.A X.stack s1 H1 F Q (WE W σ) room I1.env0 un hK hT hj hS st o e) fun r s' z => ?_)
  cases r with
  | error er => exact L2N.passAt tk σ pins H1 s1 er s' I1 z
  | ok fl =>
    cases fl with
    | ret u => exact I1.after z
    | next => exact z.elim
    | brk => exact z.elim
    | cont => exact z.elim
end
/-- the facts of the def that lists the classes -/
structure CfF (K : PySem.W.Frag) (mg : Str → Option Value) (cf : Str) (all : List Str) : Prop where
  ex : ∃ (xq : Str) (cpar : Arguments) (es : List Expr) (q1 q2 : Pos) (csc : Scope) (fc : Addr) (cfd : FuncData) (cN : List Str) (cer : Str), FunD K cf xq cpar [.Return (some (.List es q1)) q2] csc [] [] fc cfd ∧ FnScope cN [cer] csc ∧ mg cf = some (.ref fc) ∧ Binds K cfd [cer] [] ∧ rowsOf cer es = some all ∧ varOk cN csc 0 cer = true ∧
    (∀ n ∈ all, csc.names.lookup n = some .globalImplicit) ∧ csc.names.lookup ("isinstance" : Str) = some .globalImplicit
  len : all.length ≤ 1000
  nd : all.Nodup
  dbg : (cf == ("__debug__" : Str)) = false
section
variable {P : Program} {w : World} {K : PySem.W.Frag} {mg : Str → Option Value} {base : Heap} {T : List (Addr × Str)} {C : Str → Addr} {n : Nat} {cl : Addr} {j : Addr} {c c' : HO} {r : Res}
/-- the body: try: return ('told', call()) / except Refused as error: the suite -/
def heardS (B : SuP) (top a er cf rw : Str) (scope : Scope) (p1 p2 p3 p4 p5 p6 p7 p8 : Pos) (k1 k2 : Nat) : Stmt :=
  .Try [.Return (some (.Tuple [.Constant (.str "told") k1 p1, .Call (.Name a p2) [] [] p3] k2 p4)) p5] [.ExceptHandler (some (.Name top p6)) (some er) [suiteS B cf er rw scope] p7] [] [] p8
theorem heard_run {x qual : Str} {par : Arguments} {sc scope : Scope} {f : Addr} {fd : FuncData} {N : List Str} {B : SuP} {tp a er cf rw : Str} {p1 p2 p3 p4 p5 p6 p7 p8 : Pos} {k1 k2 : Nat} {all : List Str} {ie ir : Nat}
    (FD : FunD K x qual par [heardS B tp a er cf rw scope p1 p2 p3 p4 p5 p6 p7 p8 k1 k2] sc [] [] f fd) (S : FnScope N [a] sc) (CF : CfF K mg cf all) (hi : mg "isinstance" = none)
    (gt : sc.names.lookup tp = some .globalImplicit) (dt : (tp == ("__debug__" : Str)) = false) (mt : mg tp = some (.ref (C tp))) (gc : sc.names.lookup cf = some .globalImplicit)
    (va : varOk N sc 0 a = true) (ie0 : ie ≠ 0) (iN : N[ie]? = some er) (ve : varOk N sc ie er = true) (le : sc.names.lookup er = some .local) (hir : N[ir]? = some rw) (bk : blkC N sc scope [(rw, ir)] = true) (vr : varOk N (relS scope sc) ir rw = true) (lr : (relS scope sc).names.lookup rw = some .local) (ln : (B.p2.endLine == B.pe.line) = true) (hrl : ir < N.length)
    {A : Around} {outer : List PySem.Env} {s : Shared} {H : Hp} {args : Args} {Sa : List Addr} {Q : VK} {E : XK} (room : Room (n + 2) A) (e0 : Env0 P w K mg base A outer s H) (bd : BindsTo s fd args ([a].zip [.ref cl])) (act : Acts P w K mg base T C (n + 1) cl Sa j (frs outer) s H c r c')
    (o : Ok (fxOf K T H Sa j) [] c H) (hcj : ∀ fs, c' ≠ .xd fs) (hx : ∀ k d, r = .ex k d → ClsF K mg C all k ∧ k ∈ all ∧ k.length ≤ 1000 ∧ PySem.W.exmOne K (.ref (C k)) (.ref (C tp)) = some true)
    (q : ∀ v H', Ok (fxOf K T H Sa j) [] c' H' → Rep K j (off Sa H') v (heardR r) → Q v H') : codeAny (model P w) A (.call (.ref f) args) (CR (L2N.CX P w) outer P w H s Q E) s := by
  obtain ⟨oc, od, dV, kV, doc, pm, an, cdv, ct, osl, rfl, lk, code, _, _⟩ := FD.ex
  refine LamX.run_ofS (N := N) (ps := [a]) (us := [.ref cl]) (vs := [.ref cl]) lk code S (hr := (show Room (n + 1 + 1) A from room)) e0 bd (.cons rfl .nil) rfl fun hr' => ?_
  have n0 : ie < N.length := (List.getElem?_eq_some_iff.mp iN).1
  have hl : (rho0 N [D.ob (.ref cl)]).length = N.length := by
    unfold rho0
    rw [List.length_append, List.length_map, List.length_replicate]
    show 1 + (N.length - 1) = _
    omega
  have E1 : Env (fxOf K T H Sa j) [] (rho0 N [.ob (.ref cl)]) (L2.start N [.ref cl]) H := env0 (F := fxOf K T H Sa j) (.cons (.ob _) .nil)
  refine ⟨_, pss_one (L2N.ps_try_as (X := cxOf (L2N.CX P w) P w K mg base N qual sc f cdv A outer s H E) (i := ie) (Wout := fun _ _ _ _ => False) (c := .ref (C tp))
    (tb := fun W D σ H' => ∀ pn xe, L2N.Takes ((cxOf (L2N.CX P w) P w K mg base N qual sc f cdv A outer s H E).tr pn xe) W → wSs ((cxOf (L2N.CX P w) P w K mg base N qual sc f cdv A outer s H E).tr pn xe) [.Return (some (.Tuple [.Constant (.str "told") k1 p1, .Call (.Name a p2) [] [] p3] k2 p4)) p5] D σ H')
    (ts := fun b cls d D σ H' => ∀ oe pn, L2N.Zn cls d oe → (∃ vs, oe.data = .fields vs) → wSs ((cxOf (L2N.CX P w) P w K mg base N qual sc f cdv A outer s H E).suite b ((b, oe) :: pn)) [suiteS B cf er rw scope] D σ H')
    rfl rfl S.nd iN le ⟨gt, dt, .inl mt⟩ takesN0 (fun W pn xe tk _ => ⟨fun pins s σ H D I h => h pn xe tk pins s I⟩) (fun b oe cls d pn hz hv => ⟨fun pins s σ H D I h => h oe pn hz hv pins s I⟩)), ?_⟩
  intro pn xe tk
  refine wSs_of (pss_one (ps_ret (pe_tup (pa_cons pe_str (pa_cons (pe_w (e := .Call (.Name a p2) [] [] p3)) pa_nil))))) ?_
  refine wE_act (X := (cxOf (L2N.CX P w) P w K mg base N qual sc f cdv A outer s H E).tr pn xe) (H0 := H) (i := 0) (F := fxOf K T H Sa j) act rfl hr' tk va rfl rfl rfl rfl (fun b hb => .inl hb) (Stp.refl _ _) o ?_
  cases r with
  | ok d => exact fun v H' o' r' => ⟨sz_le (by show 2 ≤ 100000; decide), fun p hp => q _ _ (o'.new hp) (o'.newT hp (.cons (.str _) (.cons r' .nil)))⟩
  | ex k d =>
    intro dd H' ⟨o', v, hx1, rv⟩
    obtain ⟨x1, x2, x3, x4⟩ := hx k d rfl
    refine ⟨true, x4, fun _ b nb oe pn' hz ⟨vs, hf⟩ => ?_, fun z => by cases z⟩
    obtain ⟨xq, cpar, es, q1, q2, csc, fc, cfd, cN, cer, y1, y2, y3, y4, y5, y6, y7, y8⟩ := CF.ex
    obtain ⟨fsx, hx1a, hxl⟩ := hx1
    have ndd : dd ≠ j := fun z => hcj _ (by
      have z1 := o'.jc
      rw [z] at hx1a
      exact Option.some.inj (z1.symm.trans hx1a))
    have E2 : Env (fxOf K T H' Sa j) [] (rho0 N [.ob (.ref cl)]) (L2.start N [.ref cl]) H' := env0 (F := fxOf K T H' Sa j) (.cons (.ob _) .nil)
    have E3 := E2.put (d := .ob (.ref b)) (v := .ref b) (i := ie) (.ob _) (by rw [hl]; exact n0)
    refine suite_ok (Y := cxOf (L2N.CX P w) P w K mg base N qual sc f cdv A outer s H E) (F := fxOf K T H' Sa j) (C := C) (room := n) (ie := ie) (ir := ir) (v := v) (d := d) (dd := dd) rfl x1 CF.nd x2 x3 hz hf S.nd ⟨hr'.dp, hr'.un⟩ y1 y2 y3 y4 y5 y6 CF.len y7 y8 hi gc CF.dbg ve hir bk vr lr ln
      (List.getElem?_set_self (by rw [hl]; exact n0)) (by rw [List.length_set, hl]; exact hrl) (o'.call (L := [])) E3 ⟨fsx, hx1a, hxl⟩ ndd rv ⟨_, hx1a⟩ ?_
    exact fun v H'' o'' r'' => q v H'' (o'.back (L := []) o'') r''
end
end Fh
end
section
set_option Elab.async false
set_option linter.all false
set_option maxRecDepth 100000
set_option maxHeartbeats 2000000
/-! A lambda is made; what it does; it is handed to a def. -/
namespace Fh
open PySem PySem.Spec PyProof.Rows L2 LamX
section
variable {X : Cx} {pins : List (Addr × Obj)} {σ : L2.St} {H : Hp} {s : Shared}
abbrev lamQ (X : Cx) : Str := X.env.qual ++ "<lambda>"
abbrev lamO (X : Cx) (params : Arguments) (body : Expr) (scope : Scope) (pm : Value) (c' : Addr) (ctv : Value) : Obj := PySem.W.kla_obj "<lambda>" (X.env.qual ++ "<lambda>") params body scope (cloFrom X.env.cells scope.names []) pm c' ctv
/-- the lambda is made; nothing that stood is lost -/
theorem lamMade {T : List (Addr × Str)} {c P : Addr} {params : Arguments} {body : Expr} {scope : Scope} {pos : Pos} {E Q : Value → Shared → Prop} (I : Inv X pins σ H s) (TB : TabB X.base X.mg c P) (code : X.env.code = .ref c) (inT : (P, lamQ X) ∈ T) (one : ∀ p ∈ T, p.1 = P → p.2 = lamQ X) (tabs : Tabs T H)
    (dflt : defaultsOf params X.env = ([], [])) (cells : ∀ y ∈ scope.names, y.2 = .free → ∃ c, X.env.cells.lookup y.1 = some c)
    (go : ∀ (f c' : Addr) (pm ctv : Value) (H1 : Hp) (s' : Shared), Inv X pins σ H1 s' → ExtN H H1 → (∀ a, H1 a = none → H a = none) → Tabs T H1 → s'.heap.get? f = some (lamO X params body scope pm c' ctv) → H1 f = none → f ∉ frs X.stack → H1 c' = some (CodeO c' (lamQ X)) → Q (.ref f) s') :
    wpAny (model X.prog X.w) X.A (eval (.Lambda params body scope pos) X.env) Q E s := by
  obtain ⟨ps, atP, trip, codes⟩ := tabs _ inT
  have objP : s.heap.get? P = some { cls := .none, data := .fields ps } := I.hok P _ atP
  have young : ∀ f, s.heap.objs.size ≤ f → f ∉ frs X.stack := fun f hf m => by
    rcases List.mem_cons.mp (I.stkSub _ m) with e | e
    · have lt := I.lt
      rw [← e] at lt
      exact Nat.lt_irrefl _ (Nat.lt_of_lt_of_le lt hf)
    · exact I.nofs hf e
  refine PySem.W.kla_eval dflt ?_
  cases among : codeAmong pos ps.toList with
  | some cv =>
    obtain ⟨c', rfl, atC⟩ := codes pos cv among
    refine PySem.W.kla_makeFunctionHit (mg := X.mg) (c := c) (P := P) (ps := ps) (closure_ok cells) I.ok.glob (I.mod.glob.keeps I.bk) code (TB.code.keeps I.bk) objP trip among (TB.bm.keeps I.bk) fun ctv h' tk ext size => ?_
    exact go h'.objs.size c' ((X.mg "__name__").getD .none) ctv H _ (I.kept fun b o e => Heap.get?_push_of_some _ (ext b o e)) (ExtN.refl H) (fun a z => z) tabs (Heap.get?_push_size _ rfl) (I.hok.fresh size) (young _ size) atC
  | none =>
    refine PySem.W.kla_makeFunction (mg := X.mg) (c := c) (P := P) (ps := ps) (closure_ok cells) I.ok.glob (I.mod.glob.keeps I.bk) code (TB.code.keeps I.bk) objP trip among TB.gP (TB.bm.keeps I.bk) fun c' ctv h' tk ext old lt rec tabAt => ?_
    obtain ⟨c2, oc, vs, t, e2, hoc, hd, hv⟩ := rec
    cases e2
    have size : s.heap.objs.size ≤ h'.objs.size := Nat.le_trans old (Nat.le_of_lt lt)
    have freshC : H c' = none := I.hok.fresh old
    have neP : ∀ {a : Addr}, H a = none → P ≠ a := fun z => ne_of_none atP z
    generalize eps : ps ++ #[rawInt pos.line, rawInt pos.col, .ref c'] = ps' at tabAt
    have I1 : Inv X pins σ (upd (upd H P (.tbl ps')) c' (CodeO c' (lamQ X))) { s with heap := h'.push (lamO X params body scope ((X.mg "__name__").getD .none) c' ctv), toks := tk } := by
      rw [← eps] at tabAt ⊢
      exact inv_table I atP (fun b o nb e => Heap.get?_push_of_some _ (ext b o nb e)) (Heap.get?_push_of_some _ tabAt) old ⟨oc, vs, t, Heap.get?_push_of_some _ hoc, hd, hv⟩
    have grow : ExtN H (upd (upd H P (.tbl ps')) c' (CodeO c' (lamQ X))) := fun b o e nt => by
      rw [upd_ne (ne_of_none e freshC), upd_ne (fun z => nt ps (by
        rw [z, atP] at e
        exact (Option.some.inj e).symm))]
      exact e
    refine go h'.objs.size c' _ ctv _ _ I1 grow (fun a z => ?_) (fun p hp => ?_) (Heap.get?_push_size _ rfl) ?_ (young _ size) upd_same
    · by_cases e1 : a = c'
      · rw [e1] at z
        rw [upd_same] at z
        cases z
      · rw [upd_ne e1] at z
        by_cases e2 : a = P
        · rw [e2, upd_same] at z
          cases z
        · rw [upd_ne e2] at z
          exact z
    · by_cases e1 : p.1 = P
      · rw [one p hp e1, e1]
        refine ⟨ps', by rw [upd_ne (neP freshC), upd_same], by rw [← eps, Array.toList_append]; exact PySem.TriplesOk_snoc _ _ _ _ trip, fun p' cv hcv => ?_⟩
        have hcv' : codeAmong p' (ps.toList ++ [rawInt pos.line, rawInt pos.col, .ref c']) = some cv := by
          rw [← eps, Array.toList_append] at hcv
          exact hcv
        rcases among_app _ trip hcv' with z | z
        · obtain ⟨c0, y1, y2⟩ := codes p' cv z
          exact ⟨c0, y1, grow _ _ y2 codeO_ne⟩
        · exact ⟨c', z, upd_same⟩
      · obtain ⟨qs, y1, y2, y3⟩ := tabs p hp
        refine ⟨qs, by rw [upd_ne (ne_of_none y1 freshC), upd_ne e1]; exact y1, y2, fun p' cv hcv => ?_⟩
        obtain ⟨c0, z1, z2⟩ := y3 p' cv hcv
        exact ⟨c0, z1, grow _ _ z2 codeO_ne⟩
    · have n1 : h'.objs.size ≠ c' := Nat.ne_of_gt lt
      have n2 : h'.objs.size ≠ P := Nat.ne_of_gt (Nat.lt_of_lt_of_le (Heap.lt_size objP) size)
      rw [upd_ne n1, upd_ne n2]
      exact I.hok.fresh size
end
/-- the context of a lambda's body -/
abbrev lamC (X : Cx) (A : Around) (outer : List PySem.Env) (s : Shared) (H : Hp) (E : XK) (scope : Scope) (f c' : Addr) : Cx :=
  (lamCx X A outer s H E scope f c').wish fun e s' => wpAny (model X.prog X.w) (A.deeper (lamEnv X scope s.heap.objs.size f c')) (leaving (lamEnv X scope s.heap.objs.size f c') e) (fun _ s'' => L2N.CX X.prog X.w outer H s E e s'') (fun e' s'' => L2N.CX X.prog X.w outer H s E e' s'') s'
/-- slots that a lambda may read -/
def hideR (ρ : Rho) : Rho := ρ.map fun z => match z with
  | some (.fr d) => some (.fr d)
  | _ => none
theorem hide_env {F F' : Fx} {L : List Addr} {ρ : Rho} {σ : L2.St} {H H' : Hp} (E : Env F L ρ σ H) (hK : F'.K = F.K) (hj : F'.j = F.j) (k : ∀ a o, off (L ++ F.S0) H a = some o → (∀ ps, o ≠ .tbl ps) → off F'.S0 H' a = some o) : Env F' [] (hideR ρ) σ H' where
  len := by unfold hideR; rw [List.length_map]; exact E.len
  fr := fun i d z => by
    unfold hideR at z
    rw [List.getElem?_map] at z
    cases e : ρ[i]? with
    | none => rw [e] at z; cases z
    | some o =>
      rw [e] at z
      cases o with
      | none => cases z
      | some u =>
        cases u with
        | fr d' =>
          cases z
          obtain ⟨v, h1, h2⟩ := E.fr i d e
          refine ⟨v, h1, ?_⟩
          rw [hK, hj]
          exact h2.mono k
        | ow ds => cases z
  ow := fun i ds z => by
    unfold hideR at z
    rw [List.getElem?_map] at z
    cases e : ρ[i]? with
    | none => rw [e] at z; cases z
    | some o =>
      rw [e] at z
      cases o with
      | none => cases z
      | some u => cases u <;> cases z
  one := fun i k ds es p z _ _ _ => by
    unfold hideR at z
    rw [List.getElem?_map] at z
    cases e : ρ[i]? with
    | none => rw [e] at z; cases z
    | some o =>
      rw [e] at z
      cases o with
      | none => cases z
      | some u => cases u <;> cases z
/-- what a body is worth in every such context -/
def BodyOk (X : Cx) (T : List (Addr × Str)) (C : Str → Addr) (n : Nat) (scope : Scope) (body : Expr) (ρ : Rho) (c : HO) (r : Res) (c' : HO) : Prop := ∀ (Y : Cx) (F : Fx), Y.prog = X.prog → Y.w = X.w → Y.K = X.K → Y.mg = X.mg → Y.base = X.base → Y.N = X.N → Y.env.scope = scope → Y.calm = true → Room n Y.A → F.K = X.K → F.T = T →
  (∀ d, r = .ok d → Ev Y F body ρ c d c') ∧ ∀ k d, r = .ex k d → ∀ W, EvX ⟨Y, F, W, C⟩ body ρ c k d c'
section
variable {X : Cx} {F : Fx} {C : Str → Addr} {pins : List (Addr × Obj)} {σ : L2.St} {H : Hp} {s : Shared} {L : List Addr} {ρ : Rho} {c c' : HO} {r : Res} {n : Nat} {params : Arguments} {body : Expr} {scope : Scope} {f cc : Addr} {pm ctv : Value}
theorem lam_acts (I : Inv X pins σ H s) (hK : X.K = F.K) (Ls : LamS X.env.scope scope) (obj : s.heap.get? f = some (lamO X params body scope pm cc ctv)) (fn : H f = none) (fst : f ∉ frs X.stack) (co : H cc = some (CodeO cc (lamQ X))) (ccj : cc ≠ F.j)
    (bind : bindArgs (PySem.W.kla_fn "<lambda>" (X.env.qual ++ "<lambda>") params body scope (cloFrom X.env.cells scope.names []) pm (.ref cc) ctv) ⟨[], []⟩ = pure []) (o : Ok F L c H) (E : Env F L ρ σ H) (B : BodyOk X F.T C n scope body (hideR ρ) c r c') :
    Acts X.prog X.w X.K X.mg X.base F.T C (n + 1) f (L ++ F.S0) F.j (frs X.stack) s H c r c' where
  at_ := ⟨_, _, _, _, obj⟩
  stay := fun s' H' un => ⟨_, _, _, _, un.keep f _ obj fn fst (by simp)⟩
  run := fun A outer s3 H3 F3 Q Ex room e0 un e1 e2 e3 hS st o3 q => by
    have obj3 : s3.heap.get? f = some (lamO X params body scope pm cc ctv) := un.keep f _ obj fn fst (by simp)
    have co3 : H3 cc = some (CodeO cc (lamQ X)) := st.keep cc _ ccj co codeO_ne
    obtain ⟨⟨oc, vs, t, hoc, hdc, hvc⟩, _, _⟩ := e0.hok cc _ co3
    refine PySem.W.kla_callFunE room.depth obj3 rfl Ls.co Ls.gen rfl ⟨cc, oc, vs, t, rfl, hoc, hdc, hvc⟩ ?_
    rw [bind]
    refine wpAny_pure (wpAny_newFunctionEnv (fun y hy => (Ls.own y hy).2) (fun y hy => absurd hy (by simp)) (fun h1 hns hsb => ⟨(e0.mod.nolimit.keeps fun b o z => (e0.bs b o z).1).fresh _ hsb, ?_⟩) Ls.kind)
    show codeAny _ _ (.expr body (lamEnv X scope s3.heap.objs.size f cc)) _ _
    have kp : ∀ b o, s3.heap.get? b = some o → h1.get? b = some o := fun b o e => hsb.extBut b o (Nat.ne_of_lt (Heap.lt_size e)) (Heap.get?_push_of_some _ e)
    have J0 : Inv (lamCx X A outer s3 H3 Ex scope f cc) [] σ H3 { s3 with heap := h1, toks := s3.toks + ([] : List (Str × Value)).length } := lam_start2 I Ls e0 room.hd un hns kp
    have J : Inv (lamC X A outer s3 H3 Ex scope f cc) [] σ H3 { s3 with heap := h1, toks := s3.toks + ([] : List (Str × Value)).length } := J0.wish _
    have E3 : Env F3 [] (hideR ρ) σ H3 := hide_env E (by rw [e1, hK]) e3 fun a u hz nt => by
      obtain ⟨na, ha⟩ := off_some hz
      have nj : a ≠ F.j := fun z => na (by rw [z]; exact o.jL)
      rw [off_eq (fun z => by
        rcases hS a z with y | y
        · exact na y
        · rw [ha] at y; cases y)]
      exact st.keep a u nj ha nt
    have rd := B (lamC X A outer s3 H3 Ex scope f cc) F3 rfl rfl rfl rfl rfl rfl rfl rfl (room.deeper _) e1 e2
    have tk : L2N.Takes (lamC X A outer s3 H3 Ex scope f cc) (fun cls d _ H => Ex cls d H) := L2N.takes_of rfl rfl rfl rfl
    have ends : ∀ {Q' : VK}, wE (lamC X A outer s3 H3 Ex scope f cc) body σ H3 Q' → (∀ v H', Q' v H' → Q v H') → codeAny (model X.prog X.w) A (.expr body (lamEnv X scope s3.heap.objs.size f cc)) (CR (L2N.CX X.prog X.w) outer X.prog X.w H3 s3 Q Ex) { s3 with heap := h1, toks := s3.toks + ([] : List (Str × Value)).length } := fun {Q'} wish imp => by
      refine PySem.W.kla_codeExpr (wpAny_mono (wish [] _ J) (fun v s' hq => ?_) fun e s' hq => hq)
      obtain ⟨w', H', J', rv, q'⟩ := hq
      exact ⟨w', H', J'.os, J'.bare, J'.base, J'.hok, rv, imp _ _ q'⟩
    cases r with
    | ok d => exact ends ((rd.1 d rfl) e1.symm [] σ H3 o3 E3 (fun v H' => Q v H') fun v H' s' o' r' => q v H' o' r') fun _ _ z => z
    | ex k d => exact ends ((rd.2 k d rfl (fun cls d _ H => Ex cls d H)) ⟨e1.symm, tk⟩ [] σ H3 o3 E3 (fun σ' H' dd x => q dd H' x) (fun _ _ => False)) fun _ _ z => z.elim
end
end Fh
end
section
set_option Elab.async false
set_option linter.all false
set_option maxRecDepth 100000
set_option maxHeartbeats 2000000
/-! Defs that are handed a lambda. -/
namespace Fh
open PySem PySem.Spec PyProof.Rows L2 LamX
/-- x(a thing, ds ..): the thing, called once and first, ends with r0 and leaves c0; then g r0 ds c0 -/
structure Hof (P : Program) (w : World) (K : PySem.W.Frag) (mg : Str → Option Value) (base : Heap) (T : List (Addr × Str)) (C : Str → Addr) (x : Str) (n h : Nat) (g : Res → List D → HO → Option (Res × HO)) : Prop where
  ex : ∃ (f : Addr) (fd : FuncData) (ps : List Str), mg x = some (.ref f) ∧ PySem.W.keepIn K (.ref f) = true ∧ Binds K fd ps [] ∧ (∀ r0 ds c0 z, g r0 ds c0 = some z → ds.length + 1 = ps.length) ∧
    ∀ (A : Around) (outer : List PySem.Env) (s : Shared) (H : Hp) (args : Args) (cl : Addr) (us : List Value) (vs : List V) (ds : List D) (Sa : List Addr) (j : Addr) (c c0 c' : HO) (r0 r : Res) (Q : VK) (E : XK), Room (n + h + 4) A → Env0 P w K mg base A outer s H → BindsTo s fd args (ps.zip (.ref cl :: us)) → Vals vs us →
      Acts P w K mg base T C (n + 1) cl Sa j (frs outer) s H c r0 c0 → Ok (fxOf K T H Sa j) [] c H → Reps K j (off Sa H) vs ds → g r0 ds c0 = some (r, c') → EndOk (fxOf K T H Sa j) C Q E c' r → codeAny (model P w) A (.call (.ref f) args) (CR (L2N.CX P w) outer P w H s Q E) s
/-- what may be raised -/
def exIn (l : List Str) : Res → Bool
  | .ok _ => true
  | .ex k _ => l.contains k
def isL : HO → Bool
  | .lst _ => true
  | _ => false
theorem isL_x {c : HO} (h : isL c = true) : (∀ fs, c ≠ .xd fs) ∧ ∀ φ, c ≠ .ext φ := by
  cases c with
  | lst xs => exact ⟨fun _ z => (by cases z), fun _ z => (by cases z)⟩
  | _ => cases h
/-- the meaning of heard -/
def heardG (l : List Str) : Res → List D → HO → Option (Res × HO) := fun r ds c => match ds with
  | [] => if (exIn l r && isL c) = true then some (.ok (heardR r), c) else none
  | _ => none
section
variable {P : Program} {w : World} {K : PySem.W.Frag} {mg : Str → Option Value} {base : Heap} {T : List (Addr × Str)} {C : Str → Addr} {n : Nat}
theorem Acts.mono {m : Nat} {cl : Addr} {S : List Addr} {j : Addr} {fs : List Addr} {s0 : Shared} {H0 : Hp} {c c' : HO} {r : Res} (a : Acts P w K mg base T C m cl S j fs s0 H0 c r c') (h : m ≤ n) : Acts P w K mg base T C n cl S j fs s0 H0 c r c' :=
  ⟨a.at_, a.stay, fun A outer s H F Q E hr => a.run A outer s H F Q E (hr.mono h)⟩
theorem hof_heard {x qual : Str} {par : Arguments} {sc scope : Scope} {f : Addr} {fd : FuncData} {N : List Str} {B : SuP} {tp a er cf rw : Str} {p1 p2 p3 p4 p5 p6 p7 p8 : Pos} {k1 k2 : Nat} {all l : List Str} {ie ir : Nat}
    (FD : FunD K x qual par [heardS B tp a er cf rw scope p1 p2 p3 p4 p5 p6 p7 p8 k1 k2] sc [] [] f fd) (S : FnScope N [a] sc) (CF : CfF K mg cf all) (hi : mg "isinstance" = none) (mx : mg x = some (.ref f)) (bd : Binds K fd [a] [])
    (gt : sc.names.lookup tp = some .globalImplicit) (dt : (tp == ("__debug__" : Str)) = false) (mt : mg tp = some (.ref (C tp))) (gc : sc.names.lookup cf = some .globalImplicit)
    (va : varOk N sc 0 a = true) (ie0 : ie ≠ 0) (iN : N[ie]? = some er) (ve : varOk N sc ie er = true) (le : sc.names.lookup er = some .local) (hir : N[ir]? = some rw) (bk : blkC N sc scope [(rw, ir)] = true) (vr : varOk N (relS scope sc) ir rw = true) (lr : (relS scope sc).names.lookup rw = some .local) (ln : (B.p2.endLine == B.pe.line) = true) (hrl : ir < N.length)
    (hx : ∀ k ∈ l, ClsF K mg C all k ∧ k ∈ all ∧ k.length ≤ 1000 ∧ PySem.W.exmOne K (.ref (C k)) (.ref (C tp)) = some true) : Hof P w K mg base T C x n 0 (heardG l) := by
  refine ⟨f, fd, [a], mx, FD.kp, bd, fun r0 ds c0 z h => ?_, fun A outer s H args cl us vs ds Sa j c c0 c' r0 r Q E room e0 b rv act o rp hg q => ?_⟩
  · unfold heardG at h
    split at h
    · rfl
    · cases h
  · unfold heardG at hg
    split at hg
    · split at hg
      · rename_i h
        cases hg
        obtain ⟨h1, h2⟩ := Bool.and_eq_true_iff.mp h
        cases rp
        cases rv
        refine heard_run (n := n) (B := B) FD S CF hi gt dt mt gc va ie0 iN ve le hir bk vr lr ln hrl (room.mono (by omega)) e0 b act o (isL_x h2).1 (fun k d e => ?_) q
        rw [e] at h1
        exact hx k (by simpa [exIn] using h1)
      · cases hg
    · cases hg
/-- a call of such a def with a thing at a name -/
theorem ev_hofName {X : Cx} {F : Fx} {x : Str} {m h : Nat} {g : Res → List D → HO → Option (Res × HO)} (G : Hof X.prog X.w X.K X.mg X.base F.T C x m h g) (room : Room (m + h + 4) X.A) {a : Str} {i : Nat} {p1 p2 p3 : Pos} (hg : Gl X x) (hd : (x == ("__debug__" : Str)) = false) (va : varOk X.N X.env.scope i a = true) (hex : X.ex = [])
    {cl : Addr} {S0 : List Addr} {c c0 c' : HO} {r0 : Res} {d : D} (act : Acts X.prog X.w X.K X.mg X.base F.T C (m + 1) cl S0 F.j X.fs X.s_0 X.H_0 c r0 c0) {σ : L2.St} {H : Hp} {L : List Addr} {Q : VK} (hK : X.K = F.K) (hσ : σ[i]? = some (some (.ref cl))) (st : Stp F.j X.H_0 H) (o : Ok F L c H) (hS : ∀ a ∈ F.S0, a ∈ S0) (hL : ∀ a ∈ L, X.H_0 a = none)
    (fr0 : ∀ b ∈ frs X.stack, b ∈ X.fs ∨ X.s_0.heap.get? b = none) (hgr : g r0 [] c0 = some (.ok d, c')) (q : Aft F L H c' d Q) : wE X (.Call (.Name x p1) [.Name a p2] [] p3) σ H Q := fun pins s I => by
  obtain ⟨f, fd, ps, h1, h2, h3, h4, h5⟩ := G.ex
  obtain ⟨w1, w2, w3, w4⟩ := varOk_ok va
  refine wpAny_Call_Name_kw (ld_glob I hg h1 ?_ hd)
  have ar := (pa_cons (X := X) (e := .Name a p2) (es := []) (pe_var (pos := p2) (i := i) w1 w2 w3 w4) pa_nil rfl).run p3 pins s σ H (fun vs H1 => vs = [.ref cl] ∧ H1 = H) I ⟨.ref cl, hσ, rfl, rfl⟩
  refine PySem.W.callWith_K (h₀ := X.base) I.ok.mod.kin h2 (thn ar fun us s1 ⟨vs, H1, I1, r1, e1, e2⟩ => ⟨I1.kIn, ?_⟩) rfl rfl
  subst e1 e2
  cases r1 with
  | cons r1 rr =>
  cases rr
  cases r1
  have b := h3 s1 [.ref cl] I1.kIn (by rw [List.append_nil]; exact h4 _ _ _ _ hgr)
  rw [List.append_nil] at b
  have un0 : Un X.fs [] X.H_0 H1 X.s_0.heap s1.heap := by
    have z := I1.base
    rw [hex] at z
    exact z
  have act1 : Acts X.prog X.w X.K X.mg X.base F.T C (m + 1) cl (L ++ F.S0) F.j (frs X.stack) s1 H1 c r0 c0 := by
    have cut : ∀ {s' : Shared} {H' : Hp}, Un (frs X.stack) [] H1 H' s1.heap s'.heap → Un X.fs [] X.H_0 H' X.s_0.heap s'.heap := fun {s' H'} u => {
      keep := fun b o' e n nf _ => u.keep b o' (un0.keep b o' e n nf (by simp)) (un0.free b o' e n (by simp)) (fun m => (fr0 b m).elim nf fun z => by rw [e] at z; cases z) (by simp)
      slot := fun b o' e n hf _ => by
        obtain ⟨sl, e1⟩ := un0.slot b o' e n hf (by simp)
        obtain ⟨sl', e2⟩ := u.any e1 (un0.free b o' e n (by simp)) (by simp)
        exact ⟨sl', e2⟩
      free := fun b o' e n _ => by
        obtain ⟨sl, e1⟩ := un0.any e n (by simp)
        exact u.free b _ e1 (un0.free b o' e n (by simp)) (by simp)
      there := fun b o' e _ => by
        obtain ⟨o2, e2⟩ := un0.there b o' e (by simp)
        exact u.there b o2 e2 (by simp)
      tups := fun b xs e => u.tups b xs (un0.tups b xs e)
      frzs := fun b o' v e => u.frzs b o' v (un0.frzs b o' v e)
      tbls := fun b qs e => by
        obtain ⟨m1, e1⟩ := un0.tbls b qs e
        obtain ⟨m2, e2⟩ := u.tbls b _ e1
        exact ⟨m1 ++ m2, by rw [e2, Array.append_assoc]⟩ }
    refine ⟨act.stay s1 H1 un0, fun s' H' u => act.stay s' H' (cut u), fun A outer s3 H3 F3 Q3 E3 hr e0 u k1 k2 k3 kS kst ko kq => act.run A outer s3 H3 F3 Q3 E3 hr e0 (cut u) k1 k2 k3 (fun a ha => ?_) (st.trans kst) ko kq⟩
    rcases kS a ha with z | z
    · rcases List.mem_append.mp z with y | y
      · exact .inr (hL a y)
      · exact .inl (hS a y)
    · exact .inr (st.live a z)
  have room' := room
  refine wpAny_call (codeAny_mono (h5 X.A X.stack s1 H1 ⟨[.ref cl], []⟩ cl [] [] [] (L ++ F.S0) F.j c c0 c' r0 (.ok d) Q (fun _ _ _ => False) room I1.env0 b .nil act1 (by rw [hK]; exact o.call) .nil hgr fun v H' o' r' => ?_) fun r s' z => ?_)
  · rw [hK] at o' r'
    exact q v H' o'.st (o.back o') r'
  · cases r with
    | error er => exact passNL pins σ H1 s1 er s' I1 z
    | ok fl =>
      cases fl with
      | ret u => exact I1.after z
      | next => exact z.elim
      | brk => exact z.elim
      | cont => exact z.elim
/-- the meaning of tells: same is what the law's own comparison tells -/
def tellsG (gh : Res → List D → HO → Option (Res × HO)) (same : List D → HO → Option (Res × HO)) : Res → List D → HO → Option (Res × HO) := fun r ds c => match ds with
  | [due] => match gh r [] c with
    | some (.ok d, c1) => match same [d, .tup [.str "told", due]] c1 with
      | some (.ok b, c2) => some (.ok b, c2)
      | _ => none
    | _ => none
  | _ => none
theorem hof_tells {x qual : Str} {par : Arguments} {sc : Scope} {f : Addr} {fd : FuncData} {N ps2 : List Str} {sm hd a du : Str} {p1 p2 p3 p4 p5 p6 p7 p8 p9 : Pos} {k1 k2 : Nat} {k : Nat} {sem : Fn} {gh : Res → List D → HO → Option (Res × HO)} {same : List D → HO → Option (Res × HO)}
    (FD : FunD K x qual par [.Return (some (.Call (.Name sm p1) [.Call (.Name hd p2) [.Name a p3] [] p4, .Tuple [.Constant (.str "told") k1 p7, .Name du p8] k2 p9] [] p5)) p6] sc [] [] f fd) (S : FnScope N [a, du] sc) (mx : mg x = some (.ref f)) (bd : Binds K fd [a, du] [])
    (G : Hof P w K mg base T C hd n 0 gh) (Sm : Kn P w K mg base T C sm ps2 k sem) (hk : k ≤ n + 4) (hs : ∀ ds c r c', same ds c = some (r, c') → sem ds c r c')
    (gs : sc.names.lookup sm = some .globalImplicit) (ds : (sm == ("__debug__" : Str)) = false) (gh' : sc.names.lookup hd = some .globalImplicit) (dh : (hd == ("__debug__" : Str)) = false) (va : varOk N sc 0 a = true) (vd : varOk N sc 1 du = true) : Hof P w K mg base T C x n 1 (tellsG gh same) := by
  refine ⟨f, fd, [a, du], mx, FD.kp, bd, fun r0 ds c0 z h => ?_, fun A outer s H args cl us vs ds Sa j c c0 c' r0 r Q E room e0 b rv act o rp hg q => ?_⟩
  · unfold tellsG at h
    split at h
    · rfl
    · cases h
  · unfold tellsG at hg
    split at hg
    · rename_i due
      split at hg
      · rename_i d c1 h1
        split at hg
        · rename_i bb c2 h2
          cases hg
          cases rp with
          | cons rd rr =>
          cases rr
          rename_i vd1
          obtain ⟨oc, od, dV, kV, doc, pm, an, cdv, ct, osl, rfl, lk, code, _, _⟩ := FD.ex
          obtain ⟨fs, fds, m1, m2, m3, m4⟩ := Sm.ex
          refine LamX.run_ofS (N := N) (ps := [a, du]) (us := .ref cl :: us) (vs := [.ref cl, vd1]) lk code S (hr := (show Room (n + 4 + 1) A from room)) e0 b (.cons rfl rv) rfl fun hr' => ?_
          refine ⟨_, pss_one (ps_ret (pe_call (X := cxOf (L2N.CX P w) P w K mg base N qual sc f cdv A outer s H E) (E := fun _ _ _ => False) m2 (hr'.mono hk) gs m1 m3 m4.b .nil passNL (pa_cons (pe_w (e := .Call (.Name hd p2) [.Name a p3] [] p4)) (pa_cons (pe_w (e := .Tuple [.Constant (.str "told") k1 p7, .Name du p8] k2 p9)) pa_nil rfl) rfl) ds rfl rfl)), ?_⟩
          have E1 : Env (fxOf K T H Sa j) [] (rho0 N [.ob (.ref cl), due]) (L2.start N [.ref cl, vd1]) H := env0 (F := fxOf K T H Sa j) (.cons (.ob _) (.cons rd .nil))
          refine ev_hofName (X := cxOf (L2N.CX P w) P w K mg base N qual sc f cdv A outer s H E) (F := fxOf K T H Sa j) (i := 0) (S0 := Sa) G hr' gh' dh va rfl act rfl rfl (Stp.refl _ _) o (fun _ z => z) (fun _ z => by cases z) (fun b hb => ?_) h1 fun v1 H1 s1 o1 r1 => ?_
          · rcases List.mem_cons.mp (show b ∈ s.heap.objs.size :: frs outer from hb) with z | z
            · refine .inr ?_
              cases q1 : s.heap.get? b with
              | none => exact q1
              | some u =>
                have lt := Heap.lt_size q1
                rw [z] at lt
                exact absurd lt (Nat.lt_irrefl _)
            · exact .inl z
          · have E2 := E1.step o.jL s1
            refine (ev_tup (X := cxOf (L2N.CX P w) P w K mg base N qual sc f cdv A outer s H E) (F := fxOf K T H Sa j) (ρ := rho0 N [.ob (.ref cl), due]) (c := c1) (ea_cons ev_str (ea_cons (ev_var 1 rfl vd) ea_nil rfl) rfl) (sz_le (by show 2 ≤ 100000; decide))) rfl [] _ H1 o1 E2 _ fun v2 H2 s2 o2 r2 => ?_
            show spF K T C sem ([v1, v2] ++ []) H2 _ _
            have o2' := o2.call (L := [])
            refine ⟨Sa, j, c1, [d, .tup [.str "told", due]], .ok bb, c', o2', .cons (r1.stp o1.jL s2) (.cons r2 .nil), hs _ _ _ _ h2, fun v H3 o3 r3 => q v H3 (o2.back (L := []) o3) r3⟩
        · cases hg
      · cases hg
    · cases hg
end
end Fh
end
section
set_option Elab.async false
set_option linter.all false
set_option maxRecDepth 100000
set_option maxHeartbeats 2000000
/-! x(lambda: body, ..). -/
namespace Fh
open PySem PySem.Spec PyProof.Rows L2 LamX
def noPs (a : Arguments) : Bool := a.posonlyargs.isEmpty && a.args.isEmpty && a.vararg.isNone && a.kwonlyargs.isEmpty && a.kw_defaults.isEmpty && a.kwarg.isNone && a.defaults.isEmpty
theorem noPs_ok {a : Arguments} (h : noPs a = true) : a = ⟨[], [], none, [], [], none, []⟩ := by
  obtain ⟨a1, a2, a3, a4, a5, a6, a7⟩ := a
  unfold noPs at h
  simp only [Bool.and_eq_true, List.isEmpty_iff, Option.isNone_iff_eq_none] at h
  obtain ⟨⟨⟨⟨⟨⟨h1, h2⟩, h3⟩, h4⟩, h5⟩, h6⟩, h7⟩ := h
  subst h1 h2 h3 h4 h5 h6 h7
  rfl
/-- where lambdas of X's def are kept -/
def TabF (X : Cx) (T : List (Addr × Str)) : Prop := ∃ c P, TabB X.base X.mg c P ∧ X.env.code = .ref c ∧ (P, lamQ X) ∈ T ∧ ∀ p ∈ T, p.1 = P → p.2 = lamQ X
section
variable {X : Cx} {F : Fx} {C : Str → Addr} {ρ : Rho} {c c0 c1 c2 : HO} {d : D} {ds : List D} {r0 : Res} {es : List Expr} {params : Arguments} {body : Expr} {scope : Scope} {p lp pos : Pos} {x : Str} {n h : Nat} {g : Res → List D → HO → Option (Res × HO)}
theorem ev_hofLam (G : Hof X.prog X.w X.K X.mg X.base F.T C x n h g) (room : Room (n + h + 4) X.A) (hg : Gl X x) (hd : (x == ("__debug__" : Str)) = false) (tab : TabF X F.T) (Ls : LamS X.env.scope scope) (np : noPs params = true) (hc : isL c = true) (args : EvA X F es ρ c ds c1) (st : (backTo pos (starEach es X.env)).any (·.1) = false)
    (B : BodyOk X F.T C n scope body (hideR ρ) c1 r0 c0) (hgr : g r0 ds c0 = some (.ok d, c2)) : Ev X F (.Call (.Name x p) (.Lambda params body scope lp :: es) [] pos) ρ c d c2 := fun hK L σ H o E Q q => by
  refine wE_of (X := X) (t := wE X _) pe_w (fun pins s I => ?_)
  obtain ⟨f0, fd, ps, h1, h2, h3, h4, h5⟩ := G.ex
  obtain ⟨cA, P, TB, code, inT, one⟩ := tab
  have ep := noPs_ok np
  subst ep
  refine wpAny_Call_Name_kw (ld_glob I hg h1 ?_ hd)
  have hs : starEach (.Lambda ⟨[], [], none, [], [], none, []⟩ body scope lp :: es) X.env = (false, eval (.Lambda ⟨[], [], none, [], [], none, []⟩ body scope lp) X.env) :: starEach es X.env := rfl
  refine PySem.W.callWith_K (h₀ := X.base) I.ok.mod.kin h2 ?_ hs st
  rw [hs]
  show wpAny _ _ (spliced ((false, eval (.Lambda ⟨[], [], none, [], [], none, []⟩ body scope lp) X.env) :: backTo pos (starEach es X.env))) _ _ s
  refine Calls.spliced_cons (lamMade I TB code inT one o.tb rfl (Ls.has I.ok) fun f c' pm ctv H1 s1 I1 ext live tabs1 obj fn fst co => ?_)
  have s1' : Stp F.j H H1 := ⟨fun a u _ e nt => ext a u e nt, live⟩
  have o1 : Ok F L c H1 := o.step s1' (ext _ _ o.jc o.ct) o.ct tabs1
  have ccj : c' ≠ F.j := fun z => (isL_x hc).2 _ (by
    have z1 := o1.jc
    rw [← z, co] at z1
    exact (Option.some.inj z1).symm)
  -- the function object stays while the others are told
  have notL : f ≠ X.env.locals := fun z => by
    obtain ⟨m, ⟨o', es', ep', ho', hd', _⟩, _⟩ := I1.loc
    rw [← z, obj] at ho'
    cases ho'
    cases hd'
  have notF : f ∉ X.fs := fun m => by
    refine fst ?_
    rcases I1.ok.stk with e | ⟨e, hf⟩
    · rw [e]; exact m
    · rw [e]
      obtain ⟨u, hu, q⟩ := List.mem_filterMap.mp m
      exact List.mem_filterMap.mpr ⟨u, List.mem_cons_of_mem _ hu, q⟩
  have I1' : Inv X (pins ++ [(f, lamO X ⟨[], [], none, [], [], none, []⟩ body scope pm c' ctv)]) σ H1 s1 := ⟨I1.ok, I1.os, I1.bare, I1.base, I1.loc, I1.cell, I1.free, I1.freeC, fun q hq => by
    rcases List.mem_append.mp hq with z | z
    · exact I1.pin q (List.mem_append_left _ z)
    · rcases List.mem_append.mp z with z | z
      · exact I1.pin q (List.mem_append_right _ z)
      · have e : q = (f, lamO X ⟨[], [], none, [], [], none, []⟩ body scope pm c' ctv) := by simpa using z
        subst e
        exact ⟨obj, fn, notL, notF, fun v z => by cases z⟩, I1.hok, I1.len⟩
  have ar := args hK L σ H1 o1 (E.step o.jL s1') (fun vs H2 => Stp F.j H1 H2 ∧ Ok F L c1 H2 ∧ Reps F.K F.j (off (L ++ F.S0) H2) vs ds) (fun vs H2 a b r => ⟨a, b, r⟩)
  refine thn (ar pos _ s1 I1') fun us s2 ⟨vs, H2, I2', rv, s2', o2, rp⟩ => ?_
  have I2 : Inv X pins σ H2 s2 := ⟨I2'.ok, I2'.os, I2'.bare, I2'.base, I2'.loc, I2'.cell, I2'.free, I2'.freeC, fun q hq => I2'.pin q (by
    rcases List.mem_append.mp hq with z | z
    · exact List.mem_append_left _ z
    · exact List.mem_append_right _ (List.mem_append_left _ z)), I2'.hok, I2'.len⟩
  have pf := I2'.pin (f, lamO X ⟨[], [], none, [], [], none, []⟩ body scope pm c' ctv) (List.mem_append_right _ (List.mem_append_right _ List.mem_cons_self))
  have co2 := s2'.keep c' _ ccj co codeO_ne
  have E2 := (E.step o.jL s1').step o1.jL s2'
  have act := lam_acts (C := C) (n := n) I2 hK Ls pf.1 pf.2.1 fst co2 ccj rfl o2 E2 B
  refine ⟨I2.kIn, ?_⟩
  have b := h3 s2 (.ref f :: us) I2.kIn (by
    rw [List.append_nil]
    have z := h4 _ _ _ _ hgr
    rw [← rp.length, rv.length] at z
    exact z)
  rw [List.append_nil] at b
  refine wpAny_call (codeAny_mono (h5 X.A X.stack s2 H2 ⟨.ref f :: us, []⟩ f us vs ds (L ++ F.S0) F.j c1 c0 c2 r0 (.ok d) Q (fun _ _ _ => False) room I2.env0 b rv act (by rw [hK]; exact o2.call) (by rw [hK]; exact rp) hgr fun v H' o' r' => ?_) fun r s' z => ?_)
  · rw [hK] at o' r'
    exact q v H' ((s1'.trans s2').trans o'.st) (o2.back o') r'
  · cases r with
    | error er => exact passNL pins σ H2 s2 er s' I2 z
    | ok fl =>
      cases fl with
      | ret u => exact I2.after z
      | next => exact z.elim
      | brk => exact z.elim
      | cont => exact z.elim
end
end Fh
end
section
set_option Elab.async false
set_option linter.all false
set_option maxRecDepth 100000
set_option maxHeartbeats 2000000
/-! t[::-1], t * 1, powers of great bases. -/
namespace Fh
open PySem PySem.Spec PyProof.Rows L2 HT
section
variable {prog : Program} {w : World} {A : Around} {E : Value → Shared → Prop} {s : Shared}
theorem pick_rev (xs : Array Value) : ((List.range xs.size).filterMap fun (m : Nat) => xs[(((xs.size : Int) - 1) + (m : Int) * (-1)).toNat]?).toArray = xs.toList.reverse.toArray := by
  congr 1
  apply List.ext_getElem?
  intro i
  have e : ∀ (l : List Nat), (∀ m ∈ l, m < xs.size) → l.filterMap (fun (m : Nat) => xs[(((xs.size : Int) - 1) + (m : Int) * (-1)).toNat]?) = l.map fun m => (xs[xs.size - 1 - m]?).getD .none := by
    intro l
    induction l with
    | nil => intro _; rfl
    | cons m l ih =>
      intro h
      have hm := h m List.mem_cons_self
      have e1 : (((xs.size : Int) - 1) + (m : Int) * (-1)).toNat = xs.size - 1 - m := by omega
      have e2 : xs[xs.size - 1 - m]? = some xs[xs.size - 1 - m] := Array.getElem?_eq_getElem (by omega)
      rw [List.filterMap_cons, e1, e2, List.map_cons, e2, ih fun k hk => h k (List.mem_cons_of_mem _ hk)]
      rfl
  rw [e _ fun m hm => List.mem_range.mp hm, List.getElem?_map]
  by_cases hi : i < xs.size
  · have e2 : xs[xs.size - 1 - i]? = some xs[xs.size - 1 - i] := Array.getElem?_eq_getElem (by omega)
    rw [List.getElem?_range hi, List.getElem?_reverse (by rw [Array.length_toList]; exact hi), Array.length_toList, Array.getElem?_toList]
    show some ((xs[xs.size - 1 - i]?).getD .none) = _
    rw [e2]
    rfl
  · rw [List.getElem?_eq_none (by rw [List.length_range]; omega), List.getElem?_eq_none (by rw [List.length_reverse, Array.length_toList]; omega)]
    rfl
theorem sliceApplied_rev {sl : Addr} {t : Tok} {n : Nat} {Q : Int × Int × Nat → Shared → Prop} (hs : s.heap.IsSliceOf sl .none .none (.int (-1) t)) (h : Q ((n : Int) - 1, -1, n) s) : wpAny (model prog w) A (Builtin.Slice.sliceApplied (.ref sl) (pure (n : Int))) Q E s := by
  obtain ⟨os, hos, hcs, hds⟩ := id hs
  unfold Builtin.Slice.sliceApplied Builtin.Slice.sliceFields
  refine wpAny_bind (wpAny_bind (wpAny_field hos hds (x := .none) rfl (wpAny_bind (wpAny_field hos hds (x := .none) rfl (wpAny_bind (wpAny_field hos hds (x := .int (-1) t) rfl (wpAny_pure ?_)))))))
  refine wpAny_bind (slicePart_ (.int (-1) t) ?_)
  show wpAny _ _ (if ((-1 : Int) == 0) = true then _ else _) _ _ s
  rw [if_neg (by decide)]
  refine wpAny_bind (slicePart_ .none (wpAny_bind (slicePart_ .none (wpAny_bind (wpAny_pure ?_)))))
  have e : Builtin.Slice.slicePlaces ((n : Int) - 1) (-1) (-1) = n := by
    unfold Builtin.Slice.slicePlaces
    rw [if_neg (by decide)]
    by_cases z : n = 0
    · subst z; decide
    · rw [if_pos (by omega)]
      show ((((n : Int) - 1) - (-1) - 1) / 1 + 1).toNat = n
      rw [Int.ediv_one]
      omega
  show wpAny _ _ (pure ((n : Int) - 1, (-1 : Int), Builtin.Slice.slicePlaces ((n : Int) - 1) (-1) (-1))) _ _ s
  rw [e]
  exact wpAny_pure h
theorem getItem_rev {t sl : Addr} {u : Tok} {items : Array Value} {Q : Value → Shared → Prop} (ht : IsTup s.heap t items) (hs : s.heap.IsSliceOf sl .none .none (.int (-1) u)) (h : Q (.ref s.heap.objs.size) { s with heap := s.heap.push { cls := .type "tuple", data := .seq items.toList.reverse.toArray } })
    (hsz : items.size ≤ sizeLine) : wpAny (model prog w) A (getItem (.ref t) (.ref sl)) Q E s := by
  have fit : sizeOk (.seq items.toList.reverse.toArray) := by
    show items.toList.reverse.toArray.size ≤ sizeLine
    rw [List.size_toArray, List.length_reverse, Array.length_toList]
    exact hsz
  obtain ⟨os, hos, hcs, hds⟩ := id hs
  have isS : s.TypeIs (.ref sl) "slice" := ⟨os, hos, hcs⟩
  unfold getItem
  try with_reducible refine wpAny_holding ?_
  first
    | refine wpAny_bind (wpAny_pure ?_)
    | skip
  refine wpAny_bind (wpAny_sequenceKey ht.typeIs (by decide) ?_)
  refine wpAny_bind (wpAny_callSpecial?_slot (name := Str.ofString "__getitem__") ht.typeIs PyProof.Rows.slot_tuple_getitem
    (wpAny_call_entry PyProof.Rows.slot_tuple_getitem ht.typeIs entry_tuple_getitem ?_
      (args_tuple_getitem _ _)))
  show wpAny _ _ (Builtin.Tuple.tupleItemsOf (.ref t) >>= _) _ _ s
  refine wpAny_bind (tupleItemsOf_ ht (wpAny_bind (wpAny_typeOf isS ?_)))
  rw [if_pos (by decide)]
  refine wpAny_bind (sliceApplied_rev hs ?_)
  have no : ¬ ((((items.size : Int) - 1) == 0 && (-1 : Int) == 1 && items.size == items.size) = true) := by
    intro q
    rw [Bool.and_eq_true, Bool.and_eq_true] at q
    exact absurd (eq_of_beq q.1.2) (by decide)
  show wpAny _ _ (if (((items.size : Int) - 1) == 0 && (-1 : Int) == 1 && items.size == items.size) = true then _ else _) _ _ s
  rw [if_neg no, pick_rev]
  first
    | exact wpAny_bind (m := Builtin.Tuple.tupleExact _) (wpAny_newObj_type (wpAny_pure ⟨_, rfl, wpAny_pure h⟩) fit)
    | exact wpAny_bind (m := Builtin.Tuple.tupleExact _) (wpAny_newObj_type (wpAny_bind (wpAny_pure (wpAny_pure ⟨_, rfl, wpAny_pure h⟩))) fit)
    | exact wpAny_bind (wpAny_bind (m := Builtin.Tuple.tupleExact _) (wpAny_newObj_type (wpAny_pure (wpAny_pure ⟨_, rfl, wpAny_pure h⟩)) fit))
    | exact wpAny_bind (wpAny_bind (m := Builtin.Tuple.tupleExact _) (wpAny_newObj_type (wpAny_pure ⟨_, rfl, wpAny_pure h⟩) fit))
end
section
variable {X : Cx} {F : Fx} {ρ : Rho} {c c1 c2 : HO} {ds : List D} {e ea eb : Expr} {pos p2 p3 p4 : Pos} {k1 : Nat}
theorem ev_rev (h : EvL X F e ρ c (.tup ds) c1) : Ev X F (.Subscript e (.Slice none none (some (.UnaryOp .USub (.Constant (.int 1) k1 p4) p3)) p2) pos) ρ c (.tup ds.reverse) c1 := fun hK L σ H o E Q q => by
  refine wE_of (X := X) (t := wE X _) pe_w (fun pins s I => ?_)
  refine Subscript_ (thn (h hK L σ H o E (fun v H1 => Stp F.j H H1 ∧ Ok F L c1 H1 ∧ Lk F L H1 v (.tup ds)) (fun v H1 a b r => ⟨a, b, r⟩) pins s I) fun u s1 ⟨v, H1, I1, r1, st1, o1, l1⟩ => ?_)
  obtain ⟨p, xs, rfl, h1, h2⟩ := l1.tupAt
  obtain rfl : u = Value.ref p := r1
  rw [← hK] at h1
  obtain ⟨its, rv, ht, hz⟩ := I1.tuple h1
  refine wpAny_Slice ?_
  rw [evalPart_none]
  refine wpAny_pure (wpAny_pure ?_)
  refine thn ((po_some (pe_un un_neg (pe_int (i := 1) (j := k1) (pos := p4)))).run (e := some (.UnaryOp .USub (.Constant (.int 1) k1 p4) p3)) pins s1 σ H1 (fun o H2 => o = some (-1) ∧ H2 = H1) I1 ⟨1, rfl, -1, rfl, rfl, rfl⟩) fun vs s2 ⟨l, H2, I2, pl, e1, e2⟩ => ?_
  subst e1 e2
  cases pl with
  | int i t =>
  have I4 : Inv X pins σ H2 { s2 with heap := s2.heap.push { cls := .type "slice", data := .fields #[.none, .none, .int (-1) t] } } := I2.kept (t' := s2.toks) fun b ob z => Heap.get?_push_of_some _ z
  obtain ⟨its, rv, ht, hz⟩ := I4.tuple h1
  have hn : H2 (s2.heap.push { cls := .type "slice", data := .fields #[.none, .none, .int (-1) t] }).objs.size = none := I4.hok.fresh (Nat.le_refl _)
  refine tail_any (ops := [.ref p, .ref s2.heap.objs.size]) ht.typeIs PyProof.Rows.slot_tuple_getitem.lookup (getItem_rev ht (Heap.IsSliceOf.new ..) ?_ (by rw [List.size_toArray, ← rv.length]; exact hz)) (by with_unfolding_all rfl)
  refine ⟨.ref _, upd H2 _ (.tup xs.reverse), I4.laid (t' := s2.toks) (o := .tup xs.reverse) (fun b ob z => Heap.get?_push_of_some _ z) (Nat.le_refl _) ⟨by rw [List.length_reverse]; exact hz, its.reverse, Vals.reverse rv, IsTup.new _ _⟩, rfl, ?_⟩
  exact q _ _ (st1.trans (Stp.new hn)) (o1.new hn) (o1.newT hn h2.reverse)
end
end Fh
end
section
set_option Elab.async false
set_option linter.all false
set_option maxRecDepth 100000
set_option maxHeartbeats 4000000
/-! t * 1; powers of great bases. -/
namespace Fh
open PySem PySem.Spec PyProof.Rows L2
theorem mulOnce (l : Addr) (items : Array Value) (n : Nat) (dd : Option Addr) (sl : Array (Option Value)) (u : Tok) :
    Meets (Builtin.«tuple.__mul__» ⟨[.ref l, .int 1 u], []⟩) (fun _ R s => s.heap.get? l = some { cls := .type "tuple", dict := dd, data := .seq items n, slots := sl } ∧ R (.ok (.ret (Value.ref l))) s) :=
  .of_wp fun prog w A R s h => by
    obtain ⟨hp, g, d, tk, os⟩ := s
    obtain ⟨hl, h⟩ := h
    have f1 := AutoSeq1.idx_int
    have c0 : (decide ((1 : Int) < -(2 ^ 63)) || decide ((1 : Int) ≥ 2 ^ 63)) = false := by decide
    have c1 : (items.isEmpty || (1 : Int) == 1) = true := by simp
    wp_walk using wpAny_loadPart' hl
    repeat (first
      | (refine wpAny_ite_false (decide_eq_false (by rw [c0]; exact Bool.false_ne_true)) ?_; wp_walk using wpAny_loadPart' hl)
      | (refine wpAny_ite_true (decide_eq_true (by rw [c1])) ?_; wp_walk using wpAny_loadPart' hl))
    exact ⟨_, rfl, h⟩
def rRep1 (K : PySem.W.Frag) : R2 := fun x y H Q => ∃ l xs, x = .ref l ∧ y = .int 1 ∧ SqT K H l xs ∧ Q (.ref l) H
section
variable {X : Cx} {F : Fx} {ρ : Rho} {c c1 c2 : HO} {ds : List D} {e ea eb : Expr} {pos : Pos}
theorem op_rep1 : OpR X (binaryOp .Mult) (rRep1 X.K) := by
  intro pins s σ H x y v u Q I rx ry h
  obtain ⟨l, xs, rfl, rfl, hT, q⟩ := h
  cases rx
  obtain ⟨t, rfl⟩ := ry
  obtain ⟨its, r, ⟨⟨cls, dd, data, sl⟩, ho, hc, n, hd⟩, hs⟩ := I.tuple hT
  simp only at hc hd
  subst hc hd
  exact wpAny_binaryOp_repeat_ref (T := "tuple") (U := "int") (by decide) ⟨_, ho, rfl⟩ (fun s' => typeIs_int s' 1 t) noFill_tuple_mul F.fills_int_mul F.slot_int_rmul repeat_tuple F.slot_int_index.lookup
    (call_meets F.slot_int_rmul (typeIs_int s 1 t) F.entry_int_rmul (F.args_int_rmul_2 _ _) (int_rmul_tuple 1 t l its.toArray n dd sl)
      ⟨ho, rfl, ⟨_, ho, rfl⟩, call_meets F.slot_tuple_mul ⟨_, ho, rfl⟩ F.entry_tuple_mul (F.args_tuple_mul_2 _ _) (mulOnce l its.toArray n dd sl t) ⟨ho, ⟨.ref l, H, I, rfl, q⟩⟩⟩)
theorem ev_rep1 (ha : Ev X F ea ρ c (.tup ds) c1) (hb : Ev X F eb ρ c1 (.int 1) c2) : Ev X F (.BinOp ea .Mult eb pos) ρ c (.tup ds) c2 := ev_op op_rep1 ha.l hb.l fun hK L c H v w o r1 r2 Q q => by
  cases r1 with
  | rep r1 =>
  obtain ⟨p, xs, rfl, h4, h5⟩ := r1.tupAt
  rw [r2.vi, hK]
  exact ⟨p, xs, rfl, rfl, h4, q _ H (Stp.refl _ _) o r1⟩
def CPowG (i j : Int) : Prop := 0 ≤ j ∧ (Builtin.Int.intBits i : Int) * j ≤ 2 ^ 27
theorem op_powG : OpR X (binaryOp .Pow) (rI CPowG fun i j => .int (i ^ j.toNat)) := opI fun _ _ _ _ _ _ _ hc q => pow_int hc.1 hc.2 q
theorem ev_powG {i k : Int} (ha : Ev X F ea ρ c (.int i) c1) (hb : Ev X F eb ρ c1 (.int k) c2) (h : CPowG i k) : Ev X F (.BinOp ea .Pow eb pos) ρ c (.int (i ^ k.toNat)) c2 := ev_op op_powG ha.l hb.l (op2_I h fun _ _ _ => .int _)
end
end Fh
end
section
set_option Elab.async false
set_option linter.all false
set_option maxRecDepth 100000
set_option maxHeartbeats 2000000
/-! A new list in the jar's place. -/
namespace Fh
open PySem PySem.Spec PyProof.Rows L2
mutual
def D.nojar : D → Bool
  | .jar => false
  | .tup l => D.nojars l
  | .lst l => D.nojars l
  | .dct _ l => D.nojars l
  | _ => true
def D.nojars : List D → Bool
  | [] => true
  | d :: l => d.nojar && D.nojars l
end
mutual
theorem Rep.rj {K : PySem.W.Frag} {j j' : Addr} {G : Hp} : ∀ {v : V} {d : D}, Rep K j G v d → d.nojar = true → Rep K j' G v d
  | _, _, .non, _ => .non
  | _, _, .bl b, _ => .bl b
  | _, _, .int i, _ => .int i
  | _, _, .str s, _ => .str s
  | _, _, .tup h r, z => .tup h (Reps.rj r z)
  | _, _, .lst h r, z => .lst h (Reps.rj r z)
  | _, _, .jar, z => nomatch z
  | _, _, .ob v, _ => .ob v
  | _, _, .scr h, _ => .scr h
  | _, _, .dct h hl r, z => .dct h hl (Reps.rj r z)
theorem Reps.rj {K : PySem.W.Frag} {j j' : Addr} {G : Hp} : ∀ {vs : List V} {ds : List D}, Reps K j G vs ds → D.nojars ds = true → Reps K j' G vs ds
  | _, _, .nil, _ => .nil
  | _, _, .cons h t, z => by
    have z' := Bool.and_eq_true_iff.mp (show (_ && _) = true from z)
    exact .cons (Rep.rj h z'.1) (Reps.rj t z'.2)
end
section
variable {X : Cx} {F : Fx} {ρ : Rho} {c c1 c2 c3 cj : HO} {d : D} {ds : List D} {ea eb : Expr} {es : List Expr} {pos p lp : Pos} {x : Str} {ps : List Str} {k m : Nat} {sem : Fn} {a b : Int} {C : Str → Addr}
theorem ev_callJ (G : Kn X.prog X.w X.K X.mg X.base F.T C x ps k sem) (hr : Room m X.A) (hk : k ≤ m) (hg : Gl X x) (hd : (x == ("__debug__" : Str)) = false) (ha : Ev X F ea ρ c (.int a) c1) (hb : Ev X F eb ρ c1 (.int b) c2) (sa : ∀ env es, starEach (ea :: es) env = (false, eval ea env) :: starEach es env) (sb : ∀ env es, starEach (eb :: es) env = (false, eval eb env) :: starEach es env) (args : EvA X F es ρ c2 ds c3)
    (st : (backTo pos (starEach es X.env)).any (·.1) = false) (hs : sem (.jar :: ds) (J a b) (.ok d) cj) (nd : D.nojars ds = true) (nr : d.nojar = true) : Ev X F (.Call (.Name x p) (.List [ea, eb] lp :: es) [] pos) ρ c d c3 := fun hK L σ H o E Q q => by
  obtain ⟨f, fd, h1, h2, h3, h4⟩ := G.ex
  refine wE_of (pe_call (E := fun _ _ _ => False) h2 (hr.mono hk) hg h1 h3 h4.b .nil passNL (pa_cons (pe_lst (pa_cons (pe_w (e := ea)) (pa_cons (pe_w (e := eb)) pa_nil (sb _ _)) (sa _ _))) (pa_w (es := es)) rfl) hd rfl st) ?_
  refine ha hK L σ H o E _ fun v1 H1 s1 o1 r1 => hb hK L σ H1 o1 (E.step o.jL s1) _ fun v2 H2 s2 o2 r2 => ⟨by show 2 ≤ sizeLine; exact sz_le (by decide), fun l hl => ?_⟩
  cases r1
  cases r2
  have o3 : Ok F (l :: L) c2 (upd H2 l (.lst [.int a, .int b])) := o2.join hl
  have E2 := (E.step o.jL s1).step o1.jL s2
  have E3 := E2.join (o := .lst [.int a, .int b]) hl
  have nj : l ≠ F.j := fun z => by
    rw [z, o2.jc] at hl
    cases hl
  refine args hK (l :: L) σ _ o3 E3 _ fun vs H4 s4 o4 r4 => ?_
  have at4 : H4 l = some (J a b) := s4.keep l _ nj upd_same fun ps z => by cases z
  have nl : l ∉ L ++ F.S0 := o2.np hl
  show spF X.K F.T C sem ((V.ref l :: vs) ++ []) H4 Q _
  rw [List.append_nil, hK]
  refine ⟨(l :: L) ++ F.S0, l, J a b, .jar :: ds, .ok d, cj, ⟨List.mem_append_left _ List.mem_cons_self, fun y hy z => ?_, at4, fun y hy => o4.tr y (by simpa using hy), o4.tb, Stp.refl _ _, fun y hy => absurd hy (by simp), List.nodup_nil⟩, .cons .jar (r4.rj nd), hs, fun v H5 o5 r5 => ?_⟩
  · obtain ⟨u, e, _⟩ := o4.tr y hy
    rw [show H4 y = none from z] at e
    cases e
  · have k5 : ∀ y u, y ≠ l → H4 y = some u → (∀ ps, u ≠ .tbl ps) → H5 y = some u := fun y u n e t => o5.st.keep y u n e t
    have jj : H5 F.j = some c3 := k5 _ _ (Ne.symm nj) o4.jc o4.ct
    have step : Stp F.j H2 H5 := ⟨fun y u n e t => k5 y u (ne_of_none e hl) (s4.keep y u n (by rw [upd_ne (ne_of_none e hl)]; exact e) t) t, fun y z => by
      have z1 := s4.live y (o5.st.live y z)
      by_cases e : y = l
      · rw [e]; exact hl
      · rw [upd_ne e] at z1; exact z1⟩
    have o6 : Ok F L c3 H5 := ⟨o2.jS, o2.s0, jj, fun y hy => by
      by_cases e : y = F.j
      · exact ⟨c3, by rw [e]; exact jj, o4.ct⟩
      · obtain ⟨u, e1, e2⟩ := o2.tr y hy
        exact ⟨u, step.keep y u e e1 e2, e2⟩, o5.tb, o2.st.trans step, o2.own, o2.ndL⟩
    refine q v H5 ((s1.trans s2).trans step) o6 ?_
    exact (r5.rj nr).sub fun y hy => List.mem_cons_of_mem _ hy
end
end Fh
end
section
set_option Elab.async false
set_option linter.all false
set_option maxRecDepth 100000
set_option maxHeartbeats 2000000
/-! A reader of texts over data: what it tells of an expression holds. -/
namespace Fh
open PySem PySem.Spec PyProof.Rows L2
/-- what is told of a def's surroundings -/
structure IC where
  N : List Str
  sc : Scope
  free : Str → Bool
  gi : Str → Option Int
  fn : Str → Option (List D → HO → Option (Res × HO))
  cel : Bool
  par : Str → Option (List Str)
  lo : Str → Option (List D → HO → Option (Res × HO))
  hof : Str → Option (Res → List D → HO → Option (Res × HO))
  cat : Str → Str → Bool
def glOk (sc : Scope) (x : Str) : Bool := (match sc.names.lookup x with
  | some .globalImplicit => true
  | _ => false) && !(x == ("__debug__" : Str))
/-- the reader knows its context -/
structure Sn (X : Cx) (F : Fx) (C : Str → Addr) (ic : IC) : Prop where
  N : X.N = ic.N
  sc : X.env.scope = ic.sc
  free : ∀ x, ic.free x = true → X.mg x = none
  gi : ∀ x i, ic.gi x = some i → ∃ t, X.mg x = some (.int i t)
  fn : ∀ x f, ic.fn x = some f → ∃ (ps : List Str) (k m : Nat) (sem : Fn), Kn X.prog X.w X.K X.mg X.base F.T C x ps k sem ∧ Room m X.A ∧ k ≤ m ∧ (∀ ds c r c', f ds c = some (r, c') → sem ds c r c') ∧ ∀ q, ic.par x = some q → ps = q
  hof : ∀ x g, ic.hof x = some g → ∃ n h, Hof X.prog X.w X.K X.mg X.base F.T C x n h g ∧ Room (n + h + 4) X.A ∧ TabF X F.T ∧
    ∀ y f, ic.lo y = some f → ∃ (ps : List Str) (k : Nat) (sem : Fn), Kn X.prog X.w X.K X.mg X.base F.T C y ps k sem ∧ k ≤ n ∧ (∀ ds c r c', f ds c = some (r, c') → sem ds c r c') ∧ ∀ q, ic.par y = some q → ps = q
  un : X.A.units + 64 < cLine
  calm : X.calm = true
  K : X.K = F.K
  nd : X.N.Nodup
  cel : ic.cel = true → ∀ x, X.fn x = true
theorem Sn.gl {X : Cx} {F : Fx} {C : Str → Addr} {ic : IC} (S : Sn X F C ic) {x : Str} (h : glOk ic.sc x = true) : Gl X x ∧ (x == ("__debug__" : Str)) = false := by
  obtain ⟨h1, h2⟩ := Bool.and_eq_true_iff.mp h
  refine ⟨?_, by simpa using h2⟩
  show X.env.scope.names.lookup x = _
  rw [S.sc]
  cases e : ic.sc.names.lookup x with
  | none => rw [e] at h1; cases h1
  | some k =>
    rw [e] at h1
    cases k with
    | globalImplicit => rfl
    | _ => cases h1

/-! ### shapes -/
def noStar : Expr → Bool
  | .Starred .. => false
  | _ => true
theorem star_of {e : Expr} {es : List Expr} {env : PySem.Env} (h : noStar e = true) : starEach (e :: es) env = (false, eval e env) :: starEach es env := by
  cases e with
  | Starred => cases h
  | _ => rfl
theorem noStars_of {pos : Pos} {env : PySem.Env} : ∀ {es : List Expr}, es.all noStar = true → (backTo pos (starEach es env)).any (·.1) = false
  | [], _ => rfl
  | e :: es, h => by
    have h' := Bool.and_eq_true_iff.mp (show (noStar e && es.all noStar) = true from h)
    rw [star_of h'.1]
    show (false || (backTo pos (starEach es env)).any (·.1)) = false
    rw [noStars_of h'.2]
    rfl
/-- a test that is no connective -/
def plainT : Expr → Bool
  | .UnaryOp .Not .. => false
  | .BoolOp .. => false
  | .IfExp .. => false
  | .Compare .. => false
  | _ => true
theorem plainT_of {e : Expr} {env : PySem.Env} (h : plainT e = true) : ∀ whole, isTrue e env whole = (do let v ← whole; standAt e.pos; holding [v] (truthy v)) := by
  intro whole
  cases e with
  | UnaryOp op x p =>
    cases op with
    | Not => cases h
    | _ => rfl
  | BoolOp => cases h
  | IfExp => cases h
  | Compare => cases h
  | _ => rfl
def plainI : Expr → Bool
  | .Name .. => true
  | .Constant .. => true
  | .BinOp .. => true
  | .UnaryOp .. => true
  | .Subscript .. => true
  | .Call .. => true
  | .IfExp .. => true
  | _ => false
theorem plainI_of {e : Expr} (h : plainI e = true) : PlainIx e := by
  intro o i
  cases e with
  | _ => first | rfl | cases h

/-! ### operations on data -/
def mulOk (a b : Int) : Bool := decide (a.natAbs.log2 + b.natAbs.log2 < 1000000) || ((decide (-(2 ^ 64) < a) && decide (a < 2 ^ 64)) || (decide (-(2 ^ 64) < b) && decide (b < 2 ^ 64)))
def opAddD : D → D → Option D
  | .int a, .int b => some (.int (a + b))
  | .tup l, .tup m => if l.length + m.length ≤ sizeLine then some (.tup (l ++ m)) else none
  | .str x, .str y => if x.length + y.length ≤ sizeLine then some (.str (x ++ y)) else none
  | _, _ => none
def opSubD : D → D → Option D
  | .int a, .int b => some (.int (a - b))
  | _, _ => none
def opMulD : D → D → Option D
  | .int a, .int b => if mulOk a b = true then some (.int (a * b)) else none
  | .tup l, .int k => if l ≠ [] ∧ 1 ≤ k ∧ k ≤ 1000 ∧ l.length ≤ 1000 then some (.tup (List.replicate k.toNat l).flatten) else none
  | _, _ => none
def opDivD : D → D → Option D
  | .int a, .int b => if 0 < b ∧ b.natAbs.log2 < 9000 then some (.int (a / b)) else none
  | _, _ => none
def opModD : D → D → Option D
  | .int a, .int b => if b ≠ 0 then some (.int (a.fmod b)) else none
  | _, _ => none
def opPowD : D → D → Option D
  | .int a, .int b => if 0 ≤ b ∧ (Builtin.Int.intBits a : Int) * b ≤ 2 ^ 27 then some (.int (a ^ b.toNat)) else none
  | _, _ => none
def opD : Operator → D → D → Option D
  | .Add => opAddD
  | .Sub => opSubD
  | .Mult => opMulD
  | .FloorDiv => opDivD
  | .Mod => opModD
  | .Pow => opPowD
  | _ => fun _ _ => none
def eqD : D → D → Option Bool
  | .int a, .int b => some (decide (a = b))
  | d, e => if d.eqs = true ∧ e.eqs = true then some (PyData.eqv d.py e.py) else none
def isD : D → D → Option Bool
  | .ob (.ty m), .ob (.ty n) => some (decide (m = n))
  | .bl m, .bl n => some (decide (m = n))
  | d, .non => if d.known = true then some d.isN else none
  | _, _ => none
def ordD (g : Int → Int → Bool) : D → D → Option Bool
  | .int a, .int b => some (g a b)
  | _, _ => none
/-- (a, b) <= (x, y) -/
def leP (a b x y : Int) : Bool := if decide (a = x) = true then (if decide (b = y) = true then true else decide (b ≤ y)) else decide (a ≤ x)
def leD : D → D → Option Bool
  | .int a, .int b => some (decide (a ≤ b))
  | .tup [.int a, .int b], .tup [.int x, .int y] => some (leP a b x y)
  | _, _ => none
def cmpD : CmpOp → D → D → Option Bool
  | .Eq, d, e => eqD d e
  | .NotEq, d, e => (eqD d e).map (!·)
  | .Lt, d, e => ordD (fun a b => decide (a < b)) d e
  | .LtE, d, e => leD d e
  | .Gt, d, e => ordD (fun a b => decide (a > b)) d e
  | .GtE, d, e => ordD (fun a b => decide (a ≥ b)) d e
  | .Is, d, e => isD d e
  | .IsNot, d, e => (isD d e).map (!·)
  | _, _, _ => none
section
variable {X : Cx} {F : Fx} {ρ : Rho} {c c1 c2 : HO} {d1 d2 d : D} {ea eb : Expr} {pos : Pos} {b : Bool}
theorem opD_ok {op : Operator} (ha : Ev X F ea ρ c d1 c1) (hb : Ev X F eb ρ c1 d2 c2) (h : opD op d1 d2 = some d) : Ev X F (.BinOp ea op eb pos) ρ c d c2 := by
  cases op with
  | Add =>
    replace h : opAddD d1 d2 = some d := h
    unfold opAddD at h
    split at h
    · cases h; exact ev_add ha hb
    · split at h
      · rename_i z; cases h; exact ev_catT ha hb z
      · cases h
    · split at h
      · rename_i z; cases h; exact ev_adds ha hb z
      · cases h
    · cases h
  | Sub =>
    replace h : opSubD d1 d2 = some d := h
    unfold opSubD at h
    split at h
    · cases h; exact ev_sub ha hb
    · cases h
  | Mult =>
    replace h : opMulD d1 d2 = some d := h
    unfold opMulD at h
    split at h
    · split at h
      · rename_i z
        cases h
        unfold mulOk at z
        rcases Bool.or_eq_true_iff.mp z with z | z
        · exact ev_mul ha hb (show _ < _ from of_decide_eq_true z)
        · refine ev_muls ha hb ?_
          rcases Bool.or_eq_true_iff.mp z with z | z
          · have y := Bool.and_eq_true_iff.mp z
            exact .inl ⟨of_decide_eq_true y.1, of_decide_eq_true y.2⟩
          · have y := Bool.and_eq_true_iff.mp z
            exact .inr ⟨of_decide_eq_true y.1, of_decide_eq_true y.2⟩
      · cases h
    · split at h
      · rename_i l k z
        cases h
        by_cases e : k = 1
        · subst e
          have e1 : (List.replicate (1 : Int).toNat l).flatten = l := by show ([l] : List (List D)).flatten = l; simp
          rw [e1]
          exact ev_rep1 ha hb
        · exact ev_repT ha hb z.1 (by omega) z.2.2.1 z.2.2.2
      · cases h
    · cases h
  | FloorDiv =>
    replace h : opDivD d1 d2 = some d := h
    unfold opDivD at h
    split at h
    · split at h
      · rename_i z; cases h; exact ev_fdiv ha hb z
      · cases h
    · cases h
  | Mod =>
    replace h : opModD d1 d2 = some d := h
    unfold opModD at h
    split at h
    · split at h
      · rename_i z; cases h; exact ev_mod ha hb z
      · cases h
    · cases h
  | Pow =>
    replace h : opPowD d1 d2 = some d := h
    unfold opPowD at h
    split at h
    · split at h
      · rename_i z; cases h; exact ev_powG ha hb z
      · cases h
    · cases h
  | _ => cases h
def CmpOk (X : Cx) (F : Fx) (op : CmpOp) (d1 d2 : D) (b : Bool) : Prop := ∃ r, OpR X (compareOp op) r ∧ (∀ e, behindInMarks op e = false) ∧ Op2 X F r d1 d2 (.bl b)
theorem Lk.non {L : List Addr} {H : Hp} {v : V} (r : Lk F L H v .non) : v = .non := by
  cases r with
  | rep r => cases r; rfl
theorem Lk.ob {L : List Addr} {H : Hp} {v u : V} (r : Lk F L H v (.ob u)) : v = u := by
  cases r with
  | rep r => cases r; rfl
theorem cmp_eq (hu : X.A.units + 64 < cLine) (h : eqD d1 d2 = some b) : CmpOk X F .Eq d1 d2 b := by
  unfold eqD at h
  split at h
  · cases h; exact ⟨_, op_eq, nomark, op2_eqI⟩
  · split at h
    · rename_i z; cases h; exact ⟨_, op_eqD hu, nomark, op2_eqD z.1 z.2⟩
    · cases h
theorem cmp_ne (hu : X.A.units + 64 < cLine) (h : (eqD d1 d2).map (!·) = some b) : CmpOk X F .NotEq d1 d2 b := by
  obtain ⟨b', h', rfl⟩ := Option.map_eq_some_iff.mp h
  clear h
  have h := h'
  clear h'
  unfold eqD at h
  split at h
  · cases h; exact ⟨_, op_ne, nomark, op2_neI⟩
  · split at h
    · rename_i z; cases h; exact ⟨_, op_neD hu, nomark, op2_neD z.1 z.2⟩
    · cases h
theorem cmp_is (h : isD d1 d2 = some b) : CmpOk X F .Is d1 d2 b := by
  unfold isD at h
  split at h
  · cases h; exact ⟨_, op_isTyB, nomark, op2_isTy⟩
  · cases h
    refine ⟨_, op_is_bl, nomark, fun hK L c H v w o r1 r2 Q q => ?_⟩
    rw [r1.vb, r2.vb]
    exact ⟨_, _, rfl, rfl, q _ H (Stp.refl _ _) o (.bl _)⟩
  · split at h
    · rename_i z
      cases h
      refine ⟨_, op_isN, nomark, fun hK L c H v w o r1 r2 Q q => ⟨r2.non, ?_⟩⟩
      rw [r1.isN z]
      exact q _ H (Stp.refl _ _) o (.bl _)
    · cases h
  · cases h
theorem cmp_not (h : (isD d1 d2).map (!·) = some b) : CmpOk X F .IsNot d1 d2 b := by
  obtain ⟨b', h', rfl⟩ := Option.map_eq_some_iff.mp h
  clear h
  have h := h'
  clear h'
  unfold isD at h
  split at h
  · cases h; exact ⟨_, op_notTyB, nomark, op2_notTy⟩
  · cases h
    refine ⟨_, op_isnot_bl, nomark, fun hK L c H v w o r1 r2 Q q => ?_⟩
    rw [r1.vb, r2.vb]
    exact ⟨_, _, rfl, rfl, q _ H (Stp.refl _ _) o (.bl _)⟩
  · split at h
    · rename_i z
      cases h
      refine ⟨_, op_notN, nomark, fun hK L c H v w o r1 r2 Q q => ⟨r2.non, ?_⟩⟩
      rw [r1.isN z]
      exact q _ H (Stp.refl _ _) o (.bl _)
    · cases h
  · cases h
theorem op2_leT {a b x y : Int} : Op2 X F (rLeT X.K) (.tup [.int a, .int b]) (.tup [.int x, .int y]) (.bl (leP a b x y)) := fun hK L c H v w o r1 r2 Q q => by
  obtain ⟨p, xs, rfl, h1, h2⟩ := r1.tupAt
  obtain ⟨p', ys, rfl, h3, h4⟩ := r2.tupAt
  have e1 : xs = [a, b].map V.int := Reps.ints (ns := [a, b]) h2
  have e2 : ys = [x, y].map V.int := Reps.ints (ns := [x, y]) h4
  rw [hK]
  exact ⟨p, p', [a, b], [x, y], rfl, rfl, by rw [← e1]; exact h1, by rw [← e2]; exact h3, q _ H (Stp.refl _ _) o (.bl _)⟩
theorem cmpD_ok {op : CmpOp} (hu : X.A.units + 64 < cLine) (h : cmpD op d1 d2 = some b) : CmpOk X F op d1 d2 b := by
  cases op with
  | Eq => exact cmp_eq hu h
  | NotEq => exact cmp_ne hu h
  | Is => exact cmp_is h
  | IsNot => exact cmp_not h
  | Lt =>
    replace h : ordD _ d1 d2 = some b := h
    unfold ordD at h
    split at h
    · cases h; exact ⟨_, op_lt, nomark, op2_I0 fun _ _ _ => .bl _⟩
    · cases h
  | LtE =>
    replace h : leD d1 d2 = some b := h
    unfold leD at h
    split at h
    · cases h; exact ⟨_, op_le, nomark, op2_I0 fun _ _ _ => .bl _⟩
    · cases h; exact ⟨_, op_leT (by omega), nomark, op2_leT⟩
    · cases h
  | Gt =>
    replace h : ordD _ d1 d2 = some b := h
    unfold ordD at h
    split at h
    · cases h; exact ⟨_, op_gt, nomark, op2_I0 fun _ _ _ => .bl _⟩
    · cases h
  | GtE =>
    replace h : ordD _ d1 d2 = some b := h
    unfold ordD at h
    split at h
    · cases h; exact ⟨_, op_ge, nomark, op2_I0 fun _ _ _ => .bl _⟩
    · cases h
  | _ => cases h
end
end Fh
end
section
set_option Elab.async false
set_option linter.all false
set_option maxRecDepth 100000
set_option maxHeartbeats 2000000
/-! The reader of expressions. -/
namespace Fh
open PySem PySem.Spec PyProof.Rows L2
/-- a tree of open tests -/
inductive DT (α : Type) : Type where
  | leaf (a : α)
  | fail
  | node (b : Bool) (t f : DT α)
  | req (b : Bool) (t : DT α)
  | ask (o : Option (Res × HO)) (k : Res → HO → DT α)
  | loop (o : Option Out) (k : Out → DT α)
  | lst (o : Option (List D × HO)) (k : List D → HO → DT α)
def DT.run {α : Type} : DT α → Option α
  | .leaf a => some a
  | .fail => none
  | .node b t f => cond b t.run f.run
  | .req b t => cond b t.run none
  | .ask o k => match o with
    | some (r, c) => (k r c).run
    | none => none
  | .loop o k => match o with
    | some r => (k r).run
    | none => none
  | .lst o k => match o with
    | some (r, c) => (k r c).run
    | none => none
def DT.bind {α β : Type} : DT α → (α → DT β) → DT β
  | .leaf a, g => g a
  | .fail, _ => .fail
  | .node b t f, g => .node b (t.bind g) (f.bind g)
  | .req b t, g => .req b (t.bind g)
  | .ask o k, g => .ask o fun r c => (k r c).bind g
  | .loop o k, g => .loop o fun r => (k r).bind g
  | .lst o k, g => .lst o fun r c => (k r c).bind g
theorem DT.run_bind {α β : Type} {g : α → DT β} {t : DT α} : (t.bind g).run = t.run.bind fun a => (g a).run := by
  induction t with
  | leaf a => rfl
  | fail => rfl
  | node b t f iht ihf =>
    show cond b (t.bind g).run (f.bind g).run = (cond b t.run f.run).bind _
    cases b
    · exact ihf
    · exact iht
  | req b t ih =>
    show cond b (t.bind g).run none = (cond b t.run none).bind _
    cases b
    · rfl
    · exact ih
  | ask o k ih =>
    cases o with
    | none => rfl
    | some p => exact ih p.1 p.2
  | loop o k ih =>
    cases o with
    | none => rfl
    | some p => exact ih p
  | lst o k ih =>
    cases o with
    | none => rfl
    | some p => exact ih p.1 p.2
@[irreducible] def bo {α β : Type} (m : DT (α × HO)) (f : α → HO → DT β) : DT β := m.bind fun p => f p.1 p.2
theorem bo_some {α β : Type} {m : DT (α × HO)} {f : α → HO → DT β} {z : β} (h : (bo m f).run = some z) : ∃ a c, m.run = some (a, c) ∧ (f a c).run = some z := by
  unfold bo at h
  rw [DT.run_bind] at h
  cases e : m.run with
  | none => rw [e] at h; cases h
  | some p =>
    rw [e] at h
    exact ⟨p.1, p.2, rfl, h⟩
theorem req_some {α : Type} {b : Bool} {t : DT α} {z : α} (h : (DT.req b t).run = some z) : b = true ∧ t.run = some z := by
  cases b with
  | false => cases h
  | true => exact ⟨rfl, h⟩
def mk {α : Type} (o : Option α) (c : HO) : DT (α × HO) := match o with
  | some a => .leaf (a, c)
  | none => .fail
theorem mk_some {α : Type} {o : Option α} {c c' : HO} {a : α} (h : (mk o c).run = some (a, c')) : o = some a ∧ c' = c := by
  unfold mk at h
  split at h
  · cases h; exact ⟨rfl, rfl⟩
  · cases h
/-- a thing told by a tree -/
def mt {α : Type} (t : DT α) (c : HO) : DT (α × HO) := t.bind fun a => .leaf (a, c)
theorem mt_some {α : Type} {t : DT α} {c c' : HO} {a : α} (h : (mt t c).run = some (a, c')) : t.run = some a ∧ c' = c := by
  unfold mt at h
  rw [DT.run_bind] at h
  cases e : t.run with
  | none => rw [e] at h; cases h
  | some p =>
    rw [e] at h
    cases h
    exact ⟨rfl, rfl⟩
def opAddT (x y : D) : DT D := match x, y with
  | .int a, .int b => .leaf (.int (a + b))
  | .tup l, .tup m => .req (decide (l.length + m.length ≤ sizeLine)) (.leaf (.tup (l ++ m)))
  | .str x, .str y => .req (decide (x.length + y.length ≤ sizeLine)) (.leaf (.str (x ++ y)))
  | _, _ => .fail
def opSubT (x y : D) : DT D := match x, y with
  | .int a, .int b => .leaf (.int (a - b))
  | _, _ => .fail
def opMulT (x y : D) : DT D := match x, y with
  | .int a, .int b => .req (mulOk a b) (.leaf (.int (a * b)))
  | .tup l, .int k => .req (decide (l ≠ [] ∧ 1 ≤ k ∧ k ≤ 1000 ∧ l.length ≤ 1000)) (.leaf (.tup (List.replicate k.toNat l).flatten))
  | _, _ => .fail
def opDivT (x y : D) : DT D := match x, y with
  | .int a, .int b => .req (decide (0 < b ∧ b.natAbs.log2 < 9000)) (.leaf (.int (a / b)))
  | _, _ => .fail
def opModT (x y : D) : DT D := match x, y with
  | .int a, .int b => .req (decide (b ≠ 0)) (.leaf (.int (a.fmod b)))
  | _, _ => .fail
def opPowT (x y : D) : DT D := match x, y with
  | .int a, .int b => .req (decide (0 ≤ b ∧ (Builtin.Int.intBits a : Int) * b ≤ 2 ^ 27)) (.leaf (.int (a ^ b.toNat)))
  | _, _ => .fail
def opT (op : Operator) (x y : D) : DT D := match op with
  | .Add => opAddT x y
  | .Sub => opSubT x y
  | .Mult => opMulT x y
  | .FloorDiv => opDivT x y
  | .Mod => opModT x y
  | .Pow => opPowT x y
  | _ => .fail
theorem req_ite {α : Type} {p : Prop} [Decidable p] {a : α} : (DT.req (decide p) (.leaf a)).run = if p then some a else none := by
  by_cases h : p
  · rw [if_pos h, decide_eq_true h]; rfl
  · rw [if_neg h, decide_eq_false h]; rfl
def blO (o : Option Bool) : Option D := match o with
  | some b => some (.bl b)
  | none => none
theorem blO_some {o : Option Bool} {d : D} (h : blO o = some d) : ∃ b, o = some b ∧ d = .bl b := by
  unfold blO at h
  split at h
  · cases h; exact ⟨_, rfl, rfl⟩
  · cases h
def eqT (d e : D) : DT Bool := match d, e with
  | .int a, .int b => .leaf (decide (a = b))
  | d, e => .req (d.eqs && e.eqs) (.leaf (PyData.eqv d.py e.py))
def cmpT (op : CmpOp) (d e : D) : DT Bool := match op with
  | .Eq => eqT d e
  | .NotEq => (eqT d e).bind fun b => .leaf (!b)
  | op => match cmpD op d e with
    | some b => .leaf b
    | none => .fail
theorem eqT_run {d e : D} {b : Bool} (h : (eqT d e).run = some b) : eqD d e = some b := by
  unfold eqT at h
  unfold eqD
  split at h
  · exact h
  · obtain ⟨h1, h2⟩ := req_some h
    rename_i nn
    first
      | (rw [if_pos (Bool.and_eq_true_iff.mp h1)]; exact h2)
      | (split
         · rename_i x y; exact (nn _ _ rfl rfl).elim
         · rw [if_pos (Bool.and_eq_true_iff.mp h1)]; exact h2)
theorem cmpT_run {op : CmpOp} {d e : D} {b : Bool} (h : (cmpT op d e).run = some b) : cmpD op d e = some b := by
  cases op with
  | Eq => exact eqT_run h
  | NotEq =>
    replace h : ((eqT d e).bind fun b => DT.leaf (!b)).run = some b := h
    rw [DT.run_bind] at h
    cases z : (eqT d e).run with
    | none => rw [z] at h; cases h
    | some v =>
      rw [z] at h
      cases h
      show (eqD d e).map (!·) = _
      rw [eqT_run z]
      rfl
  | _ =>
    unfold cmpT at h
    dsimp only at h
    split at h
    · rename_i z; cases h; exact z
    · cases h
theorem mtb_run {t : DT Bool} {d : D} (h : (t.bind fun b => DT.leaf (D.bl b)).run = some d) : blO t.run = some d := by
  rw [DT.run_bind] at h
  cases z : t.run with
  | none => rw [z] at h; cases h
  | some v => rw [z] at h; cases h; rfl
def notD (d : D) : Option D := match d with
  | .bl b => some (.bl (!b))
  | _ => none
def negD (d : D) : Option D := match d with
  | .int b => some (.int (-b))
  | _ => none
def intD (d : D) : Option D := match d with
  | .int i => some (.int i)
  | .bl b => some (.int (if b = true then 1 else 0))
  | _ => none
def lenD (d : D) : Option D := match d.items with
  | some l => some (.int (l.length : Int))
  | none => none
def listD (d : D) : Option D := match d.items with
  | some l => some (.lst l)
  | none => none
def tupD (d : D) : Option D := match d with
  | .lst l => some (.tup l)
  | _ => none
def typeD (d : D) : Option D := if d.rooted = true then some (.ob (.ty d.ty)) else none
def strT (d : D) : DT D := match d with
  | .int i => .req (decide (i.natAbs.log2 < 1920)) (.leaf (.str (Str.ofString (toString i))))
  | _ => .fail
def kitV (a b : String) : Bool := (kitB a b).getD false
def kitK (a b : String) : Bool := (kitB a b).isSome
def isiT (d t : D) : DT D := match t with
  | .ob (.ty T) => .req (d.rooted && kitK d.ty T) (.leaf (.bl (kitV d.ty T)))
  | _ => .fail
theorem isiT_run {d t r : D} (h : (isiT d t).run = some r) : ∃ T b, t = .ob (.ty T) ∧ d.rooted = true ∧ kitB d.ty T = some b ∧ r = .bl b := by
  unfold isiT at h
  split at h
  · rename_i T
    obtain ⟨h1, h2⟩ := req_some h
    obtain ⟨h3, h4⟩ := Bool.and_eq_true_iff.mp h1
    unfold kitK at h4
    cases h2
    cases e : kitB d.ty T with
    | none => rw [e] at h4; cases h4
    | some b => exact ⟨T, b, rfl, h3, e, by unfold kitV; rw [e]; rfl⟩
  · cases h
def maxD (d t : D) : Option D := match d, t with
  | .int i, .int j => some (.int (if j > i then j else i))
  | _, _ => none
def ixOf (x : Str) : List Str → Nat → Option Nat
  | [], _ => none
  | y :: l, i => if y = x then some i else ixOf x l (i + 1)
inductive BI where
  | len | int | list | tuple | type | isinstance | max | str
def biOf (x : Str) : Option BI := if x = ("len" : Str) then some .len else if x = ("int" : Str) then some .int else if x = ("isinstance" : Str) then some .isinstance else if x = ("tuple" : Str) then some .tuple else if x = ("list" : Str) then some .list else if x = ("type" : Str) then some .type
  else if x = ("max" : Str) then some .max else if x = ("str" : Str) then some .str else none
def tyN (x : Str) : Option String := if x = ("int" : Str) then some "int" else if x = ("tuple" : Str) then some "tuple" else if x = ("list" : Str) then some "list" else if x = ("str" : Str) then some "str" else if x = ("bool" : Str) then some "bool" else none
def constD : Const → Option D
  | .none => some .non
  | .bool b => some (.bl b)
  | .int i => some (.int i)
  | .str s => some (.str s)
  | _ => none
theorem opT_eq {op : Operator} {x y : D} : (opT op x y).run = opD op x y := by
  cases op with
  | Add =>
    show (opAddT x y).run = opAddD x y
    cases x <;> cases y <;> first | rfl | exact req_ite
  | Sub =>
    show (opSubT x y).run = opSubD x y
    cases x <;> cases y <;> rfl
  | Mult =>
    show (opMulT x y).run = opMulD x y
    cases x <;> cases y <;> first
      | rfl
      | exact req_ite
      | (rename_i a b; show cond (mulOk a b) _ _ = if mulOk a b = true then _ else _; cases mulOk a b <;> rfl)
  | FloorDiv =>
    show (opDivT x y).run = opDivD x y
    cases x <;> cases y <;> first | rfl | exact req_ite
  | Mod =>
    show (opModT x y).run = opModD x y
    cases x <;> cases y <;> first | rfl | exact req_ite
  | Pow =>
    show (opPowT x y).run = opPowD x y
    cases x <;> cases y <;> first | rfl | exact req_ite
  | _ => rfl
def slotD (ρ : Rho) (i : Nat) : Option D := match ρ[i]? with
  | some (some (.fr d)) => some d
  | _ => none
def slotL (ρ : Rho) (i : Nat) : Option D := match ρ[i]? with
  | some (some (.fr d)) => some d
  | some (some (.ow ds)) => some (.lst ds)
  | _ => none
def globD (ic : IC) (x : Str) : Option D := if glOk ic.sc x = true then (match ic.gi x with
    | some i => some (.int i)
    | none => if ic.free x = true then (tyN x).map (fun T => .ob (.ty T)) else none) else none
def nameD (ic : IC) (ρ : Rho) (x : Str) : Option D := match ixOf x ic.N 0 with
  | some i => if varOk ic.N ic.sc i x = true then slotD ρ i else none
  | none => globD ic x
def nameL (ic : IC) (ρ : Rho) (x : Str) : Option D := match ixOf x ic.N 0 with
  | some i => if varOk ic.N ic.sc i x = true then slotL ρ i else none
  | none => globD ic x
def asBl : D → Option Bool
  | .bl b => some b
  | _ => none
def asInt : D → Option Int
  | .int b => some b
  | _ => none
def someI (d : D) : Option (Option Int) := match d with
  | .int i => some (some i)
  | _ => none
def asTy : D → Option String
  | .ob (.ty T) => some T
  | _ => none
def ixD (x y : D) (c : HO) : Option D := match x with
  | .jar => match y with
    | .int 0 => match c with
      | .lst [.int a, .int _] => some (.int a)
      | _ => none
    | .int 1 => match c with
      | .lst [.int _, .int b] => some (.int b)
      | _ => none
    | _ => none
  | x => match y with
    | .int i => x.items.bind fun l => atI l i
    | _ => none
def atV (l : List D) (i : Int) : D := (atI l i).getD .non
def ixO (x y : D) : DT D := match y with
  | .int i => match x.items with
    | some l => .req (atI l i).isSome (.leaf (atV l i))
    | none => .fail
  | _ => .fail
def ixT (x y : D) (c : HO) : DT D := match x with
  | .jar => match ixD .jar y c with
    | some d => .leaf d
    | none => .fail
  | x => ixO x y
theorem ixO_run {x y d : D} (h : (ixO x y).run = some d) : ∃ i l, y = .int i ∧ x.items = some l ∧ atI l i = some d := by
  unfold ixO at h
  split at h
  · split at h
    · rename_i i l e
      obtain ⟨h1, h2⟩ := req_some h
      refine ⟨_, l, rfl, e, ?_⟩
      unfold atV at h2
      cases h2
      cases e2 : atI l _ with
      | none => rw [e2] at h1; cases h1
      | some v => rfl
    · cases h
  · cases h
theorem ixT_ne {x y : D} {c : HO} (hx : x ≠ .jar) : ixT x y c = ixO x y := by
  cases x with
  | jar => exact (hx rfl).elim
  | _ => rfl
theorem ixD_ne {x : D} {i : Int} {c : HO} (hx : x ≠ .jar) : ixD x (.int i) c = x.items.bind fun l => atI l i := by
  cases x with
  | jar => exact (hx rfl).elim
  | _ => rfl
theorem ixT_run {x y d : D} {c : HO} (h : (ixT x y c).run = some d) : ixD x y c = some d := by
  by_cases hx : x = .jar
  · subst hx
    unfold ixT at h
    dsimp only at h
    split at h
    · rename_i e; cases h; exact e
    · cases h
  · rw [ixT_ne hx] at h
    obtain ⟨i, l, rfl, e, h1⟩ := ixO_run h
    rw [ixD_ne hx, e]
    exact h1
def slD (x : D) (a b : Option Int) : Option D := match x with
  | .tup l => some (.tup (cutA l a b))
  | _ => none
def okT : Res → HO → DT (D × HO)
  | .ok d, c => .leaf (d, c)
  | .ex _ _, _ => .fail
/-! ### targets -/
inductive Tg where
  | nm (i : Nat)
  | tp (ts : List Tg)
mutual
def Tg.g (K : PySem.W.Frag) : Tg → TG
  | .nm i => gName i
  | .tp ts => gTup K ts.length (Tg.gs K ts)
def Tg.gs (K : PySem.W.Frag) : List Tg → TGs
  | [] => gNil
  | t :: ts => gCons (t.g K) (Tg.gs K ts)
end
mutual
def Tg.bind : Tg → D → Rho → Option Rho
  | .nm i, d, ρ => if i < ρ.length then some (ρ.set i (some (.fr d))) else none
  | .tp ts, d, ρ => match d with
    | .tup ds => if ds.length = ts.length then Tg.binds ts ds ρ else none
    | _ => none
def Tg.binds : List Tg → List D → Rho → Option Rho
  | [], ds, ρ => match ds with
    | [] => some ρ
    | _ :: _ => none
  | t :: ts, ds, ρ => match ds with
    | [] => none
    | d :: ds => match Tg.bind t d ρ with
      | some ρ1 => Tg.binds ts ds ρ1
      | none => none
end
mutual
def Tg.ixs : Tg → List Nat
  | .nm i => [i]
  | .tp ts => Tg.ixss ts
def Tg.ixss : List Tg → List Nat
  | [] => []
  | t :: ts => t.ixs ++ Tg.ixss ts
end
/-- may a name be set -/
def asgOk (ic : IC) (i : Nat) (x : Str) : Bool := (match ic.N[i]? with
    | some y => decide (y = x)
    | none => false) && (match ic.sc.names.lookup x with
    | some .local => true
    | some .cell => ic.cel
    | _ => false)
mutual
def tgI (ic : IC) : Nat → Expr → Option Tg
  | 0, _ => none
  | n + 1, e => match e with
    | .Name x _ => match ixOf x ic.N 0 with
      | some i => if asgOk ic i x = true then some (.nm i) else none
      | none => none
    | .Tuple es _ _ => match tgIs ic n es with
      | some ts => some (.tp ts)
      | none => none
    | _ => none
def tgIs (ic : IC) : Nat → List Expr → Option (List Tg)
  | 0, _ => none
  | n + 1, es => match es with
    | [] => some []
    | e :: es => match tgI ic n e with
      | some t => match tgIs ic n es with
        | some ts => some (t :: ts)
        | none => none
      | none => none
end
def ob {α β : Type} (m : Option (α × HO)) (f : α → HO → Option β) : Option β := match m with
  | some (a, c) => f a c
  | none => none
theorem ob_some {α β : Type} {m : Option (α × HO)} {f : α → HO → Option β} {z : β} (h : ob m f = some z) : ∃ a c, m = some (a, c) ∧ f a c = some z := by
  unfold ob at h
  split at h
  · exact ⟨_, _, rfl, h⟩
  · cases h
/-! ### blocks -/
def lcI (B : D → Rho → Option Rho) (T : Rho → HO → Option (Bool × HO)) (V : Rho → HO → Option (D × HO)) (ρ : Rho) : List D → HO → Option (List D × HO)
  | [], c => some ([], c)
  | d :: ds, c => match B d ρ with
    | none => none
    | some ρ1 => ob (T ρ1 c) fun b c1 => cond b (ob (V ρ1 c1) fun e c2 => ob (lcI B T V ρ ds c2) fun es c3 => some (e :: es, c3)) (lcI B T V ρ ds c1)
def ifsI (f : Expr → Rho → HO → Option (Bool × HO)) (ifs : List Expr) (ρ : Rho) (c : HO) : Option (Bool × HO) := match ifs with
  | [] => some (true, c)
  | e :: _ => f e ρ c
def noSet : Expr → Bool
  | .Set .. => false
  | _ => true
def ownOf (N : List Str) : List (Str × NameKind) → List (Str × Nat)
  | [] => []
  | (x, k) :: r => match k with
    | .local => (match ixOf x N 0 with
      | some i => [(x, i)]
      | none => []) ++ ownOf N r
    | .cell => (match ixOf x N 0 with
      | some i => [(x, i)]
      | none => []) ++ ownOf N r
    | _ => ownOf N r
def bnd (n : Int) : Bool := decide (-(2 ^ 62) ≤ n) && decide (n < 2 ^ 62)
def rng1T (d : D) : DT (List D) := match d with
  | .int n => .req (bnd n) (.leaf (rng 0 1 n.toNat))
  | _ => .fail
def rng2T (d e : D) : DT (List D) := match d, e with
  | .int m, .int n => .req (bnd m && bnd n) (.leaf (rng m 1 (n - m).toNat))
  | _, _ => .fail
def rngDT (d e : D) : DT (List D) := match d, e with
  | .int m, .int n => .req (bnd m && bnd n) (.leaf (rng m (-1) (m - n).toNat))
  | _, _ => .fail
def seqD (d : D) : Option (List D) := match d with
  | .tup l => some l
  | .lst l => some l
  | _ => none
/-- range(..) -/
def isRng : Expr → Option (List Expr)
  | .Call f es ks _ => match f with
    | .Name x _ => if x = ("range" : Str) then (match ks with
      | [] => some es
      | _ => none) else none
    | _ => none
  | _ => none
def twoL : Expr → Bool
  | .List [_, _] _ => true
  | _ => false
/-- the call of a known def -/
def callOf (ic : IC) : Expr → Option ((List D → HO → Option (Res × HO)) × List Expr)
  | .Call f es ks _ => match ks with
    | [] => match f with
      | .Name f _ => match es with
        | [] => none
        | e :: es => if twoL e = true then none else if glOk ic.sc f = true then (if (noStar e && es.all noStar) = true then (match ic.fn f with
          | some g => some (g, e :: es)
          | none => none) else none) else none
      | _ => none
    | _ => none
  | _ => none
/-- x(k = e), x known, k its one name -/
def kwOf (ic : IC) : Expr → Option ((List D → HO → Option (Res × HO)) × Expr)
  | .Call f es ks _ => match f with
    | .Name f _ => match es with
      | [] => match ks with
        | [k] => match k with
          | ⟨some kx, e, _⟩ => if glOk ic.sc f = true then (if ic.par f = some [kx] then (match ic.fn f with
            | some g => some (g, e)
            | none => none) else none) else none
          | _ => none
        | _ => none
      | _ => none
    | _ => none
  | _ => none
/-- x(lambda: body, ..) -/
def hofOf (ic : IC) (f : Str) (es : List Expr) : Option ((Res → List D → HO → Option (Res × HO)) × Expr × Scope × List Expr) := match es with
  | .Lambda ps body scope _ :: es => match ic.hof f with
    | some g => if (es.all noStar && LamX.lamSB ic.sc scope && noPs ps) = true then some (g, body, scope, es) else none
    | none => none
  | _ => none
abbrev icLam (ic : IC) (scope : Scope) : IC := { ic with sc := scope, cel := false, fn := ic.lo, lo := fun _ => none, hof := fun _ => none }
/-- x([a, b], ..), x known, its first name that of a jar -/
def jarOf (ic : IC) (f : Str) (es : List Expr) : Option ((List D → HO → Option (Res × HO)) × Expr × Expr × List Expr) := match es with
  | .List [ea, eb] _ :: es => match ic.par f with
    | some (p :: _) => if p = ("jar" : Str) then (if (noStar ea && noStar eb && es.all noStar) = true then (match ic.fn f with
      | some g => some (g, ea, eb, es)
      | none => none) else none) else none
    | _ => none
  | _ => none
def jarK (g : List D → HO → Option (Res × HO)) (x y : D) (ds : List D) (c : HO) : DT (D × HO) := match x with
  | .int a => match y with
    | .int b => .req (D.nojars ds) (.ask (g (.jar :: ds) (J a b)) fun r _ => match r with
      | .ok d => .req d.nojar (.leaf (d, c))
      | .ex _ _ => .fail)
    | _ => .fail
  | _ => .fail
/-- t[::-1] -/
def isRev : Option Expr → Bool
  | some (.UnaryOp .USub (.Constant (.int i) _ _) _) => decide (i = 1)
  | _ => false
def revD (x : D) : Option D := match x with
  | .tup l => some (.tup l.reverse)
  | _ => none
mutual
def iE : Nat → IC → Rho → Expr → HO → DT (D × HO)
  | 0, _, _, _, _ => .fail
  | n + 1, ic, ρ, e, c => match e with
    | .Constant k _ _ => mk (constD k) c
    | .Name x _ => mk (nameD ic ρ x) c
    | .Tuple es _ _ => bo (iA n ic ρ es c) fun ds c => if ds.length ≤ sizeLine then .leaf (.tup ds, c) else .fail
    | .List es _ => bo (iA n ic ρ es c) fun ds c => if ds.length ≤ sizeLine then .leaf (.lst ds, c) else .fail
    | .BinOp a op b _ => bo (iE n ic ρ a c) fun x c => bo (iE n ic ρ b c) fun y c => mt (opT op x y) c
    | .Compare a ops bs _ => match ops with
      | [op] => match bs with
        | [b] => bo (iL n ic ρ a c) fun x c => bo (iL n ic ρ b c) fun y c => mt ((cmpT op x y).bind fun b => .leaf (.bl b)) c
        | _ => .fail
      | _ => .fail
    | .UnaryOp op a _ => match op with
      | .Not => bo (iE n ic ρ a c) fun x c => mk (notD x) c
      | .USub => bo (iE n ic ρ a c) fun x c => mk (negD x) c
      | _ => .fail
    | .BoolOp op es _ => iB n ic op ρ es c
    | .ListComp elt gs scope _ => bo (iG n ic ρ elt gs scope c) fun es c => .leaf (.lst es, c)
    | .IfExp t a b _ => bo (iT n ic ρ t c) fun v c => .node v (iE n ic ρ a c) (iE n ic ρ b c)
    | .Subscript a i _ => match i with
      | .Slice lo hi st _ => match st with
        | none => bo (iL n ic ρ a c) fun x c => bo (iO n ic ρ lo c) fun u c => bo (iO n ic ρ hi c) fun v c => mk (slD x u v) c
        | st => if (lo.isNone && hi.isNone && isRev st) = true then bo (iL n ic ρ a c) fun x c => mk (revD x) c else .fail
      | i => if plainI i = true then bo (iL n ic ρ a c) fun x c => bo (iE n ic ρ i c) fun y c => mt (ixT x y c) c else .fail
    | .Call f es ks p => match ks with
      | [] => match f with
        | .Name f _ => if glOk ic.sc f = true then (match hofOf ic f es with
          | some (g, body, scope, es) => if isL c = true then bo (iA n ic ρ es c) fun ds c => bo (iY n (icLam ic scope) (hideR ρ) body c) fun r c => .ask (g r ds c) okT else .fail
          | none => match jarOf ic f es with
          | some (g, ea, eb, es) => bo (iE n ic ρ ea c) fun x c => bo (iE n ic ρ eb c) fun y c => bo (iA n ic ρ es c) fun ds c => jarK g x y ds c
          | none => if es.all noStar = true then (match ic.fn f with
          | some g => bo (iA n ic ρ es c) fun ds c => .ask (g ds c) okT
          | none => if ic.free f = true then (match biOf f with
            | some b => iC n ic b ρ es c
            | none => .fail) else .fail) else .fail) else .fail
        | _ => .fail
      | ks => match kwOf ic (.Call f es ks p) with
        | some (g, e) => bo (iE n ic ρ e c) fun d c => .ask (g [d] c) okT
        | none => .fail
    | _ => .fail
/-- an expression that may raise: a call of a known def -/
def iY : Nat → IC → Rho → Expr → HO → DT (Res × HO)
  | 0, _, _, _, _ => .fail
  | n + 1, ic, ρ, e, c => match callOf ic e with
    | some (g, es) => bo (iA n ic ρ es c) fun ds c => .ask (g ds c) fun r c => .leaf (r, c)
    | none => match kwOf ic e with
      | some (g, e) => bo (iE n ic ρ e c) fun d c => .ask (g [d] c) fun r c => .leaf (r, c)
      | none => bo (iE n ic ρ e c) fun d c => .leaf (.ok d, c)
def iL : Nat → IC → Rho → Expr → HO → DT (D × HO)
  | 0, _, _, _, _ => .fail
  | n + 1, ic, ρ, e, c => match e with
    | .Name x _ => mk (nameL ic ρ x) c
    | e => iE n ic ρ e c
def iA : Nat → IC → Rho → List Expr → HO → DT (List D × HO)
  | 0, _, _, _, _ => .fail
  | n + 1, ic, ρ, es, c => match es with
    | [] => .leaf ([], c)
    | e :: es => if noStar e = true then bo (iE n ic ρ e c) fun d c => bo (iA n ic ρ es c) fun ds c => .leaf (d :: ds, c) else .fail
def iO : Nat → IC → Rho → Option Expr → HO → DT (Option Int × HO)
  | 0, _, _, _, _ => .fail
  | n + 1, ic, ρ, e, c => match e with
    | none => .leaf (none, c)
    | some e => bo (iE n ic ρ e c) fun d c => mk (someI d) c
def iT : Nat → IC → Rho → Expr → HO → DT (Bool × HO)
  | 0, _, _, _, _ => .fail
  | n + 1, ic, ρ, e, c => match e with
    | .UnaryOp op a _ => match op with
      | .Not => bo (iT n ic ρ a c) fun b c => .leaf (!b, c)
      | _ => .fail
    | .BoolOp op es _ => iW n ic op ρ es c
    | .Compare a ops bs _ => match ops with
      | [op] => match bs with
        | [b] => bo (iL n ic ρ a c) fun x c => bo (iL n ic ρ b c) fun y c => mt (cmpT op x y) c
        | _ => .fail
      | _ => .fail
    | e => if plainT e = true then bo (iE n ic ρ e c) fun x c => mk (asBl x) c else .fail
def iW : Nat → IC → BoolOp → Rho → List Expr → HO → DT (Bool × HO)
  | 0, _, _, _, _, _ => .fail
  | n + 1, ic, op, ρ, es, c => match es with
    | [] => .fail
    | e :: es => match es with
      | [] => iT n ic ρ e c
      | _ :: _ => match op with
        | .And => bo (iT n ic ρ e c) fun b c => .node b (iW n ic .And ρ es c) (.leaf (false, c))
        | .Or => bo (iT n ic ρ e c) fun b c => .node b (.leaf (true, c)) (iW n ic .Or ρ es c)
def iB : Nat → IC → BoolOp → Rho → List Expr → HO → DT (D × HO)
  | 0, _, _, _, _, _ => .fail
  | n + 1, ic, op, ρ, es, c => match es with
    | [] => .fail
    | e :: es => match es with
      | [] => iE n ic ρ e c
      | _ :: _ => match op with
        | .And => bo (iE n ic ρ e c) fun d c => match asBl d with
          | some b => .node b (iB n ic .And ρ es c) (.leaf (.bl false, c))
          | none => .fail
        | .Or => bo (iE n ic ρ e c) fun d c => match asBl d with
          | some b => .node b (.leaf (.bl true, c)) (iB n ic .Or ρ es c)
          | none => .fail
/-- what is walked -/
def iR : Nat → IC → Rho → Expr → HO → DT (List D × HO)
  | 0, _, _, _, _ => .fail
  | n + 1, ic, ρ, e, c => match isRng e with
    | some es => if glOk ic.sc "range" = true then (if ic.free "range" = true then (match es with
      | [] => .fail
      | a :: es => if noStar a = true then (match es with
        | [] => bo (iE n ic ρ a c) fun d c => mt (rng1T d) c
        | b :: es => if noStar b = true then (match es with
          | [] => bo (iE n ic ρ a c) fun d c => bo (iE n ic ρ b c) fun e c => mt (rng2T d e) c
          | _ :: _ => .fail) else .fail) else .fail) else .fail) else .fail
    | none => if noSet e = true then bo (iE n ic ρ e c) fun d c => mk (seqD d) c else .fail
/-- a block -/
def iG : Nat → IC → Rho → Expr → List Comprehension → Scope → HO → DT (List D × HO)
  | 0, _, _, _, _, _, _ => .fail
  | n + 1, ic, ρ, elt, gs, scope, c => match gs with
    | [g] => if g.is_async = 0 ∧ g.ifs.length ≤ 1 then (if blkC ic.N ic.sc scope (ownOf ic.N scope.names) = true then (match tgI { ic with sc := relS scope ic.sc, cel := false, hof := fun _ => none } n g.target with
      | none => .fail
      | some t => if (t.ixs.all fun i => ((ownOf ic.N scope.names).map (·.2)).contains i) = true then bo (iR n ic ρ g.iter c) fun ds c => .lst (lcI t.bind (ifsI (fun e ρ c => (iT n { ic with sc := relS scope ic.sc, cel := false, hof := fun _ => none } ρ e c).run) g.ifs) (fun ρ c => (iE n { ic with sc := relS scope ic.sc, cel := false, hof := fun _ => none } ρ elt c).run) (wipeR ρ ((ownOf ic.N scope.names).map (·.2))) ds c) fun es c => .req (decide (es.length < sizeLine)) (.leaf (es, c)) else .fail) else .fail) else .fail
    | _ => .fail
def iC : Nat → IC → BI → Rho → List Expr → HO → DT (D × HO)
  | 0, _, _, _, _, _ => .fail
  | n + 1, ic, bi, ρ, es, c => match es with
    | [] => .fail
    | e :: es => match es with
      | [] => match bi with
        | .len => bo (iL n ic ρ e c) fun d c => mk (lenD d) c
        | .int => bo (iE n ic ρ e c) fun d c => mk (intD d) c
        | .list => bo (iL n ic ρ e c) fun d c => mk (listD d) c
        | .tuple => bo (iL n ic ρ e c) fun d c => mk (tupD d) c
        | .type => bo (iL n ic ρ e c) fun d c => mk (typeD d) c
        | .str => bo (iE n ic ρ e c) fun d c => mt (strT d) c
        | _ => .fail
      | e2 :: es => match es with
        | [] => match bi with
          | .isinstance => bo (iE n ic ρ e c) fun d c => bo (iE n ic ρ e2 c) fun t c => mt (isiT d t) c
          | .max => bo (iE n ic ρ e c) fun d c => bo (iE n ic ρ e2 c) fun t c => mk (maxD d t) c
          | _ => .fail
        | _ :: _ => .fail
end
end Fh
end
section
set_option Elab.async false
set_option linter.all false
set_option maxRecDepth 100000
set_option maxHeartbeats 2000000
/-! What the reader tells of an expression holds. -/
namespace Fh
open PySem PySem.Spec PyProof.Rows L2
theorem tyN_ok {x : Str} {T : String} (h : tyN x = some T) : bootBuiltins x = some (.type T) ∧ x ≠ "__name__" := by
  unfold tyN at h
  split at h
  · rename_i e; cases h; subst e; exact ⟨by decide +kernel, by decide⟩
  split at h
  · rename_i e; cases h; subst e; exact ⟨by decide +kernel, by decide⟩
  split at h
  · rename_i e; cases h; subst e; exact ⟨by decide +kernel, by decide⟩
  split at h
  · rename_i e; cases h; subst e; exact ⟨by decide +kernel, by decide⟩
  split at h
  · rename_i e; cases h; subst e; exact ⟨by decide +kernel, by decide⟩
  · cases h
section
variable {X : Cx} {F : Fx} {C : Str → Addr} {ic : IC} {ρ : Rho} {c c' c1 c2 : HO} {d : D} {e ea eb : Expr} {es : List Expr} {pos p : Pos} {x f : Str}
theorem globD_ok (S : Sn X F C ic) (h : globD ic x = some d) : Ev X F (.Name x pos) ρ c d c := by
  unfold globD at h
  split at h
  · rename_i hg
    have g := S.gl hg
    split at h
    · rename_i i hi
      cases h
      obtain ⟨t, ht⟩ := S.gi x i hi
      exact fun hK L σ H o E Q q => wE_of (pe_glob (v := .int i) g.1 ht ⟨t, rfl⟩ g.2) (q _ H (Stp.refl _ _) o (.int i))
    · split at h
      · rename_i hf
        cases e : tyN x with
        | none => rw [e] at h; cases h
        | some T =>
          rw [e] at h
          cases h
          have y := tyN_ok e
          exact ev_ty g.1 (S.free x hf) y.1 y.2 g.2
      · cases h
  · cases h
theorem slotD_ok {i : Nat} (h : slotD ρ i = some d) : ρ[i]? = some (some (.fr d)) := by
  unfold slotD at h
  split at h
  · rename_i e; cases h; exact e
  · cases h
theorem nameD_ok (S : Sn X F C ic) (h : nameD ic ρ x = some d) : Ev X F (.Name x pos) ρ c d c := by
  unfold nameD at h
  split at h
  · rename_i i hi
    split at h
    · rename_i hv
      exact ev_var i (slotD_ok h) (by rw [S.N, S.sc]; exact hv)
    · cases h
  · exact globD_ok S h
theorem nameL_ok (S : Sn X F C ic) (h : nameL ic ρ x = some d) : EvL X F (.Name x pos) ρ c d c := by
  unfold nameL at h
  split at h
  · rename_i i hi
    split at h
    · rename_i hv
      unfold slotL at h
      split at h
      · rename_i e; cases h; exact (ev_var i e (by rw [S.N, S.sc]; exact hv)).l
      · rename_i e; cases h; exact ev_own i e (by rw [S.N, S.sc]; exact hv)
      · cases h
    · cases h
  · exact (globD_ok S h).l
theorem constD_ok {k : Const} {n : Nat} (h : constD k = some d) : Ev X F (.Constant k n pos) ρ c d c := by
  unfold constD at h
  split at h
  · cases h; exact ev_non
  · cases h; exact ev_bl
  · cases h; exact ev_int
  · cases h; exact ev_str
  · cases h
/-! targets -/
def BindCs (F : Fx) (g : TGs) (vs : List Nat) (ds : List D) (ρ ρ' : Rho) : Prop := ∀ (L : List Addr) (c : HO) (σ : L2.St) (H : Hp) (us : List V), Ok F L c H → Env F L ρ σ H → Reps F.K F.j (off (L ++ F.S0) H) us ds → ∀ Q : L2.St → Hp → Prop, (∀ σ', Env F L ρ' σ' H → SameBut vs σ σ' → Q σ' H) → g us σ H Q
mutual
theorem Tg.bind_ok {F : Fx} {vs : List Nat} : ∀ {t : Tg} {d : D} {ρ ρ' : Rho}, Tg.bind t d ρ = some ρ' → (∀ i ∈ t.ixs, i ∈ vs) → BindC F (t.g F.K) vs d ρ ρ'
  | .nm i, d, ρ, ρ', h, hv => by
    unfold Tg.bind at h
    split at h
    · rename_i hi
      cases h
      exact bindc_name hi (hv i (by unfold Tg.ixs; exact List.mem_singleton.mpr rfl))
    · cases h
  | .tp ts, d, ρ, ρ', h, hv => by
    unfold Tg.bind at h
    split at h
    · rename_i ds
      split at h
      · rename_i hl
        intro L c σ H v o E r Q q
        obtain ⟨p, xs, ev, h1, h2⟩ := r.tupAt
        exact ⟨p, xs, ev, h1, by rw [h2.length]; exact hl, Tg.binds_ok h (fun i hi => hv i (by unfold Tg.ixs; exact hi)) L c σ H xs o E h2 Q q⟩
      · cases h
    · cases h
theorem Tg.binds_ok {F : Fx} {vs : List Nat} : ∀ {ts : List Tg} {ds : List D} {ρ ρ' : Rho}, Tg.binds ts ds ρ = some ρ' → (∀ i ∈ Tg.ixss ts, i ∈ vs) → BindCs F (Tg.gs F.K ts) vs ds ρ ρ'
  | [], ds, ρ, ρ', h, hv => by
    unfold Tg.binds at h
    split at h
    · cases h
      intro L c σ H us o E r Q q
      cases r
      exact ⟨rfl, q σ E ⟨rfl, fun _ _ => rfl⟩⟩
    · cases h
  | t :: ts, ds, ρ, ρ', h, hv => by
    unfold Tg.binds at h
    split at h
    · cases h
    · rename_i d ds
      split at h
      · rename_i ρ1 h1
        intro L c σ H us o E r Q q
        cases r with
        | cons rd rt =>
          refine ⟨_, _, rfl, Tg.bind_ok h1 (fun i hi => hv i (by unfold Tg.ixss; exact List.mem_append_left _ hi)) L c σ H _ o E rd _ fun σ1 E1 s1 => ?_⟩
          exact Tg.binds_ok h (fun i hi => hv i (by unfold Tg.ixss; exact List.mem_append_right _ hi)) L c σ1 H _ o E1 rt Q fun σ2 E2 s2 => q σ2 E2 (s1.trans s2)
      · cases h
end
theorem Tg.bindD_ok {F : Fx} {t : Tg} {d : D} {ρ ρ' : Rho} (h : Tg.bind t d ρ = some ρ') : BindD F (t.g F.K) d ρ ρ' := fun L c σ H v o E r Q q => Tg.bind_ok (vs := t.ixs) h (fun _ z => z) L c σ H v o E r Q fun σ' E' _ => q σ' E'
theorem asgOk_ok {i : Nat} (S : Sn X F C ic) (h : asgOk ic i x = true) : X.N[i]? = some x ∧ L2.Loc X.env.scope x ∧ (X.fn x = true ∨ X.env.scope.names.lookup x = some .local) := by
  obtain ⟨h1, h2⟩ := Bool.and_eq_true_iff.mp h
  rw [S.N, S.sc]
  refine ⟨?_, ?_⟩
  · cases e : ic.N[i]? with
    | none => rw [e] at h1; cases h1
    | some y =>
      rw [e] at h1
      rw [of_decide_eq_true h1]
  · cases e : ic.sc.names.lookup x with
    | none => rw [e] at h2; cases h2
    | some k =>
      rw [e] at h2
      cases k with
      | «local» => exact ⟨.inl e, .inr rfl⟩
      | cell => exact ⟨.inr e, .inl (S.cel h2 x)⟩
      | _ => cases h2
mutual
theorem tgI_ok (S : Sn X F C ic) : ∀ {n : Nat} {e : Expr} {t : Tg}, tgI ic n e = some t → PG X e (t.g X.K) ∧ noStar e = true
  | 0, _, _, h => by cases h
  | n + 1, e, t, h => by
    cases e with
    | Name x pos =>
      replace h : (match ixOf x ic.N 0 with
        | some i => if asgOk ic i x = true then some (Tg.nm i) else none
        | none => none) = some t := h
      split at h
      · split at h
        · rename_i i _ ha
          cases h
          obtain ⟨a1, a2, a3⟩ := asgOk_ok S ha
          exact ⟨pg_name S.nd a1 a2 a3, rfl⟩
        · cases h
      · cases h
    | Tuple es k pos =>
      replace h : (match tgIs ic n es with
        | some ts => some (Tg.tp ts)
        | none => none) = some t := h
      split at h
      · rename_i ts hs
        cases h
        obtain ⟨b1, b2, b3⟩ := tgIs_ok S hs
        exact ⟨pg_tup S.calm b1 (b2 _) (b3 _), rfl⟩
      · cases h
    | _ => cases h
theorem tgIs_ok (S : Sn X F C ic) : ∀ {n : Nat} {es : List Expr} {ts : List Tg}, tgIs ic n es = some ts → PGs X es (Tg.gs X.K ts) ∧ (∀ env : PySem.Env, (assignEach es env).length = ts.length) ∧ (∀ env : PySem.Env, (assignEach es env).findIdx? (·.1) = none)
  | 0, _, _, h => by cases h
  | n + 1, [], ts, h => by cases h; exact ⟨pgs_nil, fun _ => rfl, fun _ => rfl⟩
  | n + 1, e :: es, ts, h => by
    replace h : (match tgI ic n e with
      | some t => match tgIs ic n es with
        | some ts => some (t :: ts)
        | none => none
      | none => none) = some ts := h
    split at h
    · rename_i t ht
      split at h
      · rename_i ts' hs
        cases h
        obtain ⟨a1, a2⟩ := tgI_ok S ht
        obtain ⟨b1, b2, b3⟩ := tgIs_ok S hs
        have k : ∀ env : PySem.Env, assignEach (e :: es) env = (false, assign e env) :: assignEach es env := fun env => by
          cases e with
          | Starred => cases a2
          | _ => rfl
        refine ⟨pgs_cons a1 b1 (by rw [k]; rfl), fun env => by rw [k, List.length_cons, b2, List.length_cons], fun env => ?_⟩
        rw [k, List.findIdx?_cons, b3]
        rfl
      · cases h
    · cases h
end
/-! what is walked -/
inductive WalkD (X : Cx) (F : Fx) (ρ : Rho) (c : HO) (c' : HO) : Expr → List D → Prop
  | lst {e : Expr} {ds : List D} (h : Ev X F e ρ c (.lst ds) c') (hs : noSet e = true) : WalkD X F ρ c c' e ds
  | tup {e : Expr} {ds : List D} (h : Ev X F e ρ c (.tup ds) c') (hs : noSet e = true) : WalkD X F ρ c c' e ds
  | rng1 {p pos : Pos} {a : Expr} {n : Int} (g : Gl X "range") (m : X.mg "range" = none) (h : Ev X F a ρ c (.int n) c') (hs : noStar a = true) (hn : -(2 ^ 62) ≤ n ∧ n < 2 ^ 62) : WalkD X F ρ c c' (.Call (.Name "range" p) [a] [] pos) (rng 0 1 n.toNat)
  | rng2 {p pos : Pos} {a b : Expr} {m n : Int} {c1 : HO} (g : Gl X "range") (mm : X.mg "range" = none) (h : Ev X F a ρ c (.int m) c1) (h2 : Ev X F b ρ c1 (.int n) c') (hs : noStar a = true) (hs2 : noStar b = true) (hn : -(2 ^ 62) ≤ m ∧ m < 2 ^ 62 ∧ -(2 ^ 62) ≤ n ∧ n < 2 ^ 62) : WalkD X F ρ c c' (.Call (.Name "range" p) [a, b] [] pos) (rng m 1 (n - m).toNat)
theorem noSet_of {e : Expr} (h : noSet e = true) (env : PySem.Env) : ∀ x, foldedSetIterable e env x = pure x := by
  intro x
  cases e with
  | Set => cases h
  | _ => rfl
theorem isRng_ok {e : Expr} {es : List Expr} (h : isRng e = some es) : ∃ p pos, e = .Call (.Name "range" p) es [] pos := by
  unfold isRng at h
  split at h
  · split at h
    · split at h
      · rename_i hx
        split at h
        · cases h; subst hx; exact ⟨_, _, rfl⟩
        · cases h
      · cases h
    · cases h
  · cases h
theorem bnd_ok {n : Int} (h : bnd n = true) : -(2 ^ 62) ≤ n ∧ n < 2 ^ 62 := by
  obtain ⟨a, b⟩ := Bool.and_eq_true_iff.mp h
  exact ⟨of_decide_eq_true a, of_decide_eq_true b⟩
/-- a block over what is walked -/
theorem walk_lc {tg elt : Expr} {ifs : List Expr} {scope : Scope} {vs : List Nat} {g : TG} {ds ls : List D} {c3 : HO} (hK : X.K = F.K) (h : WalkD X F ρ c c1 e ds) (r : LcRel F g vs (wipeR ρ vs) (BT X F scope ifs) (BV X F scope elt) ds c1 ls c3) (hz : ls.length < sizeLine) :
    ∃ wi, PI X tg e wi ∧ LcRun X F wi g (wBT X scope ifs) (wBV X scope elt) vs ρ c ls c3 ∧ ∀ x, foldedSetIterable e X.env x = pure x := by
  cases h with
  | lst h hs => exact ⟨_, pi_list pe_w, lcrun_lst hK h r hz, noSet_of hs _⟩
  | tup h hs => exact ⟨_, pi_tup pe_w, lcrun_tup hK h r hz, noSet_of hs _⟩
  | rng1 g m h hs hn => exact ⟨_, pi_range1 g m (pa_cons pe_w pa_nil (star_of hs)) (star_of hs), lcrun_rng1 hK h hn r hz, fun _ => rfl⟩
  | rng2 g mm h h2 hs hs2 hn => exact ⟨_, pi_range2 g mm (pa_cons pe_w (pa_cons pe_w pa_nil (star_of hs2)) (star_of hs)) (by rw [star_of hs, star_of hs2]; rfl) (star_of hs2), lcrun_rng2 hK h h2 hn r hz, fun _ => rfl⟩
/-- all that is known of a block -/
inductive LcAll (X : Cx) (F : Fx) (ρ : Rho) (c : HO) (es : List D) (c3 : HO) (elt : Expr) (scope : Scope) : List Comprehension → Prop
  | mk {tg iter : Expr} {ifs : List Expr} {own : List (Str × Nat)} {wi : TI} {g : TG} (hi : PI X tg iter wi) (hr : LcRun X F wi g (wBT X scope ifs) (wBV X scope elt) (own.map (·.2)) ρ c es c3) (hl : ifs.length ≤ 1) (ok : blkC X.N X.env.scope scope own = true)
      (hg : ∀ (s : Shared) (H : Hp) (a : Addr) (cl : List (Str × Addr)) (fp : List Addr), PG (X.blk s H scope (compEnvC scope cl a X.env) fp) tg g) (hs : ∀ x, foldedSetIterable iter X.env x = pure x) : LcAll X F ρ c es c3 elt scope [⟨tg, iter, ifs, 0⟩]
theorem LcAll.n {elt : Expr} {scope : Scope} {gs : List Comprehension} {ls : List D} (S : Sn X F C ic) (h : LcAll X F ρ c ls c' elt scope gs) : EvN X F (.ListComp elt gs scope pos) ρ c ls c' := by
  cases h with
  | mk hi hr hl ok hg hs => exact evn_lc hi (fun _ => hr) hl ok hg S.nd S.calm hs
structure Sd (X : Cx) (F : Fx) (Cm : Str → Addr) (ic : IC) (n : Nat) : Prop where
  E : ∀ ρ e c d c', (iE n ic ρ e c).run = some (d, c') → Ev X F e ρ c d c'
  L : ∀ ρ e c d c', (iL n ic ρ e c).run = some (d, c') → EvL X F e ρ c d c'
  A : ∀ ρ es c ds c', (iA n ic ρ es c).run = some (ds, c') → EvA X F es ρ c ds c'
  O : ∀ ρ e c d c', (iO n ic ρ e c).run = some (d, c') → EvO X F e ρ c d c'
  T : ∀ ρ e c d c', (iT n ic ρ e c).run = some (d, c') → EvT X F e ρ c d c'
  W : ∀ op ρ es c d c', (iW n ic op ρ es c).run = some (d, c') → ∀ pos, EvW X F (.BoolOp op es pos) ρ c d c'
  B : ∀ op ρ es c d c', (iB n ic op ρ es c).run = some (d, c') → ∀ pos, Ev X F (.BoolOp op es pos) ρ c d c'
  R : ∀ ρ e c ds c', (iR n ic ρ e c).run = some (ds, c') → WalkD X F ρ c c' e ds
  G : ∀ ρ elt gs scope c es c', (iG n ic ρ elt gs scope c).run = some (es, c') → LcAll X F ρ c es c' elt scope gs
  C : ∀ bi ρ es c d c', (iC n ic bi ρ es c).run = some (d, c') → ∀ x p pos, biOf x = some bi → es.all noStar = true → glOk ic.sc x = true → X.mg x = none → Ev X F (.Call (.Name x p) es [] pos) ρ c d c'
  Y : ∀ ρ e c r c', (iY n ic ρ e c).run = some (r, c') → (∀ d, r = .ok d → Ev X F e ρ c d c') ∧ ∀ k d, r = .ex k d → ∀ W, L2N.Takes X W → EvX ⟨X, F, W, Cm⟩ e ρ c k d c'
variable {n : Nat}
theorem sd_zero : Sd X F C ic 0 where
  E := fun _ _ _ _ _ h => by cases h
  L := fun _ _ _ _ _ h => by cases h
  A := fun _ _ _ _ _ h => by cases h
  O := fun _ _ _ _ _ h => by cases h
  T := fun _ _ _ _ _ h => by cases h
  W := fun _ _ _ _ _ _ h => by cases h
  B := fun _ _ _ _ _ _ h => by cases h
  R := fun _ _ _ _ _ h => by cases h
  G := fun _ _ _ _ _ _ _ h => by cases h
  C := fun _ _ _ _ _ _ h => by cases h
  Y := fun _ _ _ _ _ h => by cases h
theorem ev_jar0L {a b : Int} (ha : EvL X F ea ρ c .jar c1) (hb : Ev X F eb ρ c1 (.int 0) (J a b)) (hs : PlainIx eb) : Ev X F (.Subscript ea eb pos) ρ c (.int a) (J a b) := fun hK L σ H o E Q q =>
  wE_of (pe_ix ix_list pe_w pe_w hs) (ev2 hK o E ha hb.l fun v w H' s o' r1 r2 => by
    rw [r2.vi]
    have e : v = .ref F.j := by
      cases r1 with
      | rep r => cases r; rfl
    rw [e]
    exact ⟨F.j, _, 0, .int a, rfl, rfl, SqL.of o'.jc, rfl, q _ H' s o' (.int a)⟩)
theorem ev_jar1L {a b : Int} (ha : EvL X F ea ρ c .jar c1) (hb : Ev X F eb ρ c1 (.int 1) (J a b)) (hs : PlainIx eb) : Ev X F (.Subscript ea eb pos) ρ c (.int b) (J a b) := fun hK L σ H o E Q q =>
  wE_of (pe_ix ix_list pe_w pe_w hs) (ev2 hK o E ha hb.l fun v w H' s o' r1 r2 => by
    rw [r2.vi]
    have e : v = .ref F.j := by
      cases r1 with
      | rep r => cases r; rfl
    rw [e]
    exact ⟨F.j, _, 1, .int b, rfl, rfl, SqL.of o'.jc, rfl, q _ H' s o' (.int b)⟩)
theorem iA_nil {n : Nat} {ds : List D} (h : (iA n ic ρ [] c).run = some (ds, c')) : ds = [] ∧ c' = c := by
  cases n with
  | zero => cases h
  | succ n => cases h; exact ⟨rfl, rfl⟩
theorem ixD_ok {x y : D} (ha : EvL X F ea ρ c x c1) (hb : Ev X F eb ρ c1 y c2) (h : ixD x y c2 = some d) (hp : plainI eb = true) : Ev X F (.Subscript ea eb pos) ρ c d c2 := by
  unfold ixD at h
  split at h
  · split at h
    · split at h
      · cases h; exact ev_jar0L ha hb (plainI_of hp)
      · cases h
    · split at h
      · cases h; exact ev_jar1L ha hb (plainI_of hp)
      · cases h
    · cases h
  · split at h
    · cases e : x.items with
      | none => rw [e] at h; cases h
      | some l =>
        rw [e] at h
        exact ev_ix ha hb e h (plainI_of hp)
    · cases h
theorem ask_some {z : Option (Res × HO)} (h : (DT.ask z okT).run = some (d, c)) : z = some (.ok d, c) := by
  cases z with
  | none => cases h
  | some p =>
    obtain ⟨r, c1⟩ := p
    cases r with
    | ok d1 => cases h; rfl
    | ex k d1 => cases h
theorem opT_run {op : Operator} {x y : D} (h : (opT op x y).run = some d) : opD op x y = some d := opT_eq ▸ h
theorem kwOf_ok {e e1 : Expr} {g : List D → HO → Option (Res × HO)} (h : kwOf ic e = some (g, e1)) : ∃ f p kx kp pos, e = .Call (.Name f p) [] [⟨some kx, e1, kp⟩] pos ∧ glOk ic.sc f = true ∧ ic.par f = some [kx] ∧ ic.fn f = some g := by
  unfold kwOf at h
  split at h
  · split at h
    · split at h
      · split at h
        · split at h
          · split at h
            · rename_i hg
              split at h
              · rename_i hp
                split at h
                · rename_i hf
                  cases h
                  exact ⟨_, _, _, _, _, rfl, hg, hp, hf⟩
                · cases h
              · cases h
            · cases h
          · cases h
        · cases h
      · cases h
    · cases h
  · cases h
theorem hofOf_ok {f : Str} {es es' : List Expr} {g : Res → List D → HO → Option (Res × HO)} {body : Expr} {scope : Scope} (h : hofOf ic f es = some (g, body, scope, es')) : ∃ ps lp, es = .Lambda ps body scope lp :: es' ∧ ic.hof f = some g ∧ es'.all noStar = true ∧ LamX.lamSB ic.sc scope = true ∧ noPs ps = true := by
  unfold hofOf at h
  split at h
  · split at h
    · rename_i hf
      split at h
      · rename_i hb
        cases h
        obtain ⟨hb, h3⟩ := Bool.and_eq_true_iff.mp hb
        obtain ⟨h1, h2⟩ := Bool.and_eq_true_iff.mp hb
        exact ⟨_, _, rfl, hf, h1, h2, h3⟩
      · cases h
    · cases h
  · cases h
theorem jarOf_ok {f : Str} {es es' : List Expr} {g : List D → HO → Option (Res × HO)} {ea eb : Expr} (h : jarOf ic f es = some (g, ea, eb, es')) : ∃ lp, es = .List [ea, eb] lp :: es' ∧ ic.fn f = some g ∧ noStar ea = true ∧ noStar eb = true ∧ es'.all noStar = true := by
  unfold jarOf at h
  split at h
  · split at h
    · split at h
      · split at h
        · rename_i hb
          split at h
          · rename_i hf
            cases h
            obtain ⟨hb, h3⟩ := Bool.and_eq_true_iff.mp hb
            obtain ⟨h1, h2⟩ := Bool.and_eq_true_iff.mp hb
            exact ⟨_, rfl, hf, h1, h2, h3⟩
          · cases h
        · cases h
      · cases h
    · cases h
  · cases h
theorem isRev_ok {st : Option Expr} (h : isRev st = true) : ∃ k p4 p3, st = some (.UnaryOp .USub (.Constant (.int 1) k p4) p3) := by
  unfold isRev at h
  split at h
  · have e := of_decide_eq_true h
    subst e
    exact ⟨_, _, _, rfl⟩
  · cases h
theorem jarK_some {g : List D → HO → Option (Res × HO)} {x y : D} {ds : List D} {c : HO} (h : (jarK g x y ds c).run = some (d, c')) : ∃ a b cj, x = .int a ∧ y = .int b ∧ D.nojars ds = true ∧ g (.jar :: ds) (J a b) = some (.ok d, cj) ∧ d.nojar = true ∧ c' = c := by
  unfold jarK at h
  split at h
  · rename_i a
    split at h
    · rename_i b
      obtain ⟨nd, h⟩ := req_some h
      cases e : g (.jar :: ds) (J a b) with
      | none =>
        replace h : (DT.ask (g (.jar :: ds) (J a b)) _).run = some (d, c') := h
        rw [e] at h
        cases h
      | some z =>
        replace h : (DT.ask (g (.jar :: ds) (J a b)) _).run = some (d, c') := h
        rw [e] at h
        obtain ⟨r, cj⟩ := z
        cases r with
        | ok d1 =>
          obtain ⟨h1, h2⟩ := req_some (show (DT.req d1.nojar (.leaf (d1, c))).run = some (d, c') from h)
          cases h2
          exact ⟨_, _, cj, rfl, rfl, nd, e, h1, rfl⟩
        | ex k d1 => cases h
    · cases h
  · cases h
/-- a lambda's body, read -/
theorem body_ok {scope : Scope} {body : Expr} {ρ : Rho} {r : Res} {m : Nat} (S : Sn X F C ic) (IH : ∀ (X : Cx) (F : Fx) (ic : IC), Sn X F C ic → Sd X F C ic n)
    (lo : ∀ y f, ic.lo y = some f → ∃ (ps : List Str) (k : Nat) (sem : Fn), Kn X.prog X.w X.K X.mg X.base F.T C y ps k sem ∧ k ≤ m ∧ (∀ ds c r c', f ds c = some (r, c') → sem ds c r c') ∧ ∀ q, ic.par y = some q → ps = q)
    (h : (iY n (icLam ic scope) ρ body c).run = some (r, c')) : BodyOk X F.T C m scope body ρ c r c' := by
  intro Y F' e1 e2 e3 e4 e5 e6 e7 e8 rm e9 e10
  have SY : Sn Y F' C (icLam ic scope) := {
    N := by rw [e6]; exact S.N
    sc := e7
    free := fun x z => by rw [e4]; exact S.free x z
    gi := fun x i z => by rw [e4]; exact S.gi x i z
    fn := fun y f z => by
      obtain ⟨ps, k, sem, a1, a2, a3, a4⟩ := lo y f z
      refine ⟨ps, k, m, sem, ?_, rm, a2, a3, a4⟩
      rw [e1, e2, e3, e4, e5, e10]
      exact a1
    hof := fun _ _ z => by cases z
    un := by have := rm.un; omega
    calm := e8
    K := by rw [e9]; exact e3
    nd := by rw [e6]; exact S.nd
    cel := fun z => by cases z }
  have R := (IH Y F' (icLam ic scope) SY).Y _ _ _ _ _ h
  exact ⟨R.1, fun k d z W => fun hw => R.2 k d z W hw.tk hw⟩
theorem stepE (S : Sn X F C ic) (I : Sd X F C ic n) (IH : ∀ (X : Cx) (F : Fx) (ic : IC), Sn X F C ic → Sd X F C ic n) : ∀ ρ e c d c', (iE (n + 1) ic ρ e c).run = some (d, c') → Ev X F e ρ c d c' := by
  intro ρ e c d c' h
  cases e with
  | Constant k m pos =>
    obtain ⟨hh, rfl⟩ := mk_some (show (mk (constD k) c).run = _ from h)
    replace h := hh
    exact constD_ok h
  | Name x pos =>
    obtain ⟨hh, rfl⟩ := mk_some (show (mk (nameD ic ρ x) c).run = _ from h)
    replace h := hh
    exact nameD_ok S h
  | Tuple es m pos =>
    obtain ⟨ds, c1, h1, h⟩ := bo_some (show (bo (iA n ic ρ es c) _).run = _ from h)
    split at h
    · rename_i z; cases h; exact ev_tup (I.A _ _ _ _ _ h1) z
    · cases h
  | List es pos =>
    obtain ⟨ds, c1, h1, h⟩ := bo_some (show (bo (iA n ic ρ es c) _).run = _ from h)
    split at h
    · rename_i z; cases h; exact ev_lst (I.A _ _ _ _ _ h1) z
    · cases h
  | BinOp a op b pos =>
    obtain ⟨x, c1, h1, h⟩ := bo_some (show (bo (iE n ic ρ a c) _).run = _ from h)
    obtain ⟨y, c2, h2, h⟩ := bo_some h
    obtain ⟨hh, rfl⟩ := mt_some h
    replace h := opT_run hh
    exact opD_ok (I.E _ _ _ _ _ h1) (I.E _ _ _ _ _ h2) h
  | Compare a ops bs pos =>
    match ops, bs, h with
    | [op], [b], h =>
      obtain ⟨x, c1, h1, h⟩ := bo_some (show (bo (iL n ic ρ a c) _).run = _ from h)
      obtain ⟨y, c2, h2, h⟩ := bo_some h
      obtain ⟨hh, rfl⟩ := mt_some h
      replace h := mtb_run hh
      obtain ⟨v, hz, rfl⟩ := blO_some h
      replace h := cmpT_run hz
      obtain ⟨r, k1, k2, k3⟩ := cmpD_ok (X := X) (F := F) S.un h
      exact ev_cmp k1 (k2 _) (I.L _ _ _ _ _ h1) (I.L _ _ _ _ _ h2) k3
    | [], _, h => cases h
    | _ :: _ :: _, _, h => cases h
    | [_], [], h => cases h
    | [_], _ :: _ :: _, h => cases h
  | UnaryOp op a pos =>
    cases op with
    | Not =>
      obtain ⟨x, c1, h1, h⟩ := bo_some (show (bo (iE n ic ρ a c) _).run = _ from h)
      obtain ⟨hh, rfl⟩ := mk_some h
      replace h := hh
      unfold notD at h
      split at h
      · cases h; exact ev_not (I.E _ _ _ _ _ h1)
      · cases h
    | USub =>
      obtain ⟨x, c1, h1, h⟩ := bo_some (show (bo (iE n ic ρ a c) _).run = _ from h)
      obtain ⟨hh, rfl⟩ := mk_some h
      replace h := hh
      unfold negD at h
      split at h
      · cases h; exact ev_neg (I.E _ _ _ _ _ h1)
      · cases h
    | _ => cases h
  | BoolOp op es pos => exact I.B op ρ es c d c' h pos
  | ListComp elt gs scope pos =>
    obtain ⟨es, c1, h1, h⟩ := bo_some (show (bo (iG n ic ρ elt gs scope c) _).run = _ from h)
    cases h
    exact ((I.G _ _ _ _ _ _ _ h1).n S).v
  | IfExp t a b pos =>
    obtain ⟨v, c1, h1, h⟩ := bo_some (show (bo (iT n ic ρ t c) _).run = _ from h)
    cases v with
    | true => exact ev_if (I.T _ _ _ _ _ h1) (fun _ => I.E _ _ _ _ _ h) (fun z => by cases z)
    | false => exact ev_if (I.T _ _ _ _ _ h1) (fun z => by cases z) (fun _ => I.E _ _ _ _ _ h)
  | Subscript a i pos =>
    have gen : plainI i = true → (bo (iL n ic ρ a c) fun x c => bo (iE n ic ρ i c) fun y c => mt (ixT x y c) c).run = some (d, c') → Ev X F (.Subscript a i pos) ρ c d c' := fun hp h => by
      obtain ⟨x, c1, h1, h⟩ := bo_some h
      obtain ⟨y, c2, h2, h⟩ := bo_some h
      obtain ⟨hh, rfl⟩ := mt_some h
      replace h := ixT_run hh
      exact ixD_ok (I.L _ _ _ _ _ h1) (I.E _ _ _ _ _ h2) h hp
    cases i with
    | Slice lo hi st p2 =>
      cases st with
      | none =>
        obtain ⟨x, c1, h1, h⟩ := bo_some (show (bo (iL n ic ρ a c) _).run = _ from h)
        obtain ⟨u, c2, h2, h⟩ := bo_some h
        obtain ⟨v, c3, h3, h⟩ := bo_some h
        obtain ⟨hh, rfl⟩ := mk_some h
        replace h := hh
        unfold slD at h
        split at h
        · cases h; exact ev_slT (I.L _ _ _ _ _ h1) (I.O _ _ _ _ _ h2) (I.O _ _ _ _ _ h3)
        · cases h
      | some st =>
        replace h : (if (lo.isNone && hi.isNone && isRev (some st)) = true then bo (iL n ic ρ a c) fun x c => mk (revD x) c else .fail : DT (D × HO)).run = some (d, c') := h
        split at h
        · rename_i hb
          obtain ⟨hb, hr⟩ := Bool.and_eq_true_iff.mp hb
          obtain ⟨hl, hh⟩ := Bool.and_eq_true_iff.mp hb
          obtain ⟨k1, q4, q3, e⟩ := isRev_ok hr
          cases e
          cases Option.isNone_iff_eq_none.mp hl
          cases Option.isNone_iff_eq_none.mp hh
          obtain ⟨x, c1, h1, h⟩ := bo_some h
          obtain ⟨hm, rfl⟩ := mk_some h
          unfold revD at hm
          split at hm
          · cases hm
            exact ev_rev (I.L _ _ _ _ _ h1)
          · cases hm
        · cases h
    | Name => exact gen rfl h
    | Constant => exact gen rfl h
    | BinOp => exact gen rfl h
    | UnaryOp => exact gen rfl h
    | Subscript => exact gen rfl h
    | Call => exact gen rfl h
    | IfExp => exact gen rfl h
    | _ => cases h
  | Call fe es ks pos =>
    cases ks with
    | cons k0 ks0 =>
      replace h : (match kwOf ic (.Call fe es (k0 :: ks0) pos) with
        | some (g, e) => bo (iE n ic ρ e c) fun d c => DT.ask (g [d] c) okT
        | none => .fail : DT (D × HO)).run = some (d, c') := h
      split at h
      · rename_i g e1 hk
        obtain ⟨f, p, kx, kp, pos', e2, hg, hp, hf⟩ := kwOf_ok hk
        rw [e2]
        obtain ⟨d1, c1, h1, h⟩ := bo_some h
        obtain ⟨ps, k, m, sem, G, hr, hk, hm, hq⟩ := S.fn f g hf
        have gl := S.gl hg
        rw [hq _ hp] at G
        exact fun hK L σ H o E Q q => wE_kw (W := fun _ _ _ _ => False) takesN0 G hr hk gl.1 (I.E _ _ _ _ _ h1) (hm _ _ _ _ (ask_some h)) gl.2 hK o E (fun d' e => by cases e; exact q) fun _ _ e => by cases e
      · cases h
    | nil =>
      cases fe with
      | Name f p =>
        replace h : (if glOk ic.sc f = true then (match hofOf ic f es with
          | some (g, body, scope, es) => if isL c = true then bo (iA n ic ρ es c) fun ds c => bo (iY n (icLam ic scope) (hideR ρ) body c) fun r c => DT.ask (g r ds c) okT else .fail
          | none => match jarOf ic f es with
          | some (g, ea, eb, es) => bo (iE n ic ρ ea c) fun x c => bo (iE n ic ρ eb c) fun y c => bo (iA n ic ρ es c) fun ds c => jarK g x y ds c
          | none => if es.all noStar = true then (match ic.fn f with
          | some g => bo (iA n ic ρ es c) fun ds c => DT.ask (g ds c) okT
          | none => if ic.free f = true then (match biOf f with
            | some b => iC n ic b ρ es c
            | none => .fail) else .fail) else .fail) else .fail : DT (D × HO)).run = some (d, c') := h
        split at h
        · rename_i hg
          have gl := S.gl hg
          split at h
          · rename_i g body scope es' hh
            obtain ⟨ps, lp, rfl, hf, hs, hl, hn⟩ := hofOf_ok hh
            split at h
            · rename_i hc
              obtain ⟨ds, c1, h1, h⟩ := bo_some h
              obtain ⟨r, c2, h2, h⟩ := bo_some h
              obtain ⟨nn, hh', G, rm, tab, lo⟩ := S.hof f g hf
              exact ev_hofLam G rm gl.1 gl.2 tab (LamX.lamS_by (by rw [S.sc]; exact hl)) hn hc (I.A _ _ _ _ _ h1) (noStars_of hs) (body_ok S IH lo h2) (ask_some h)
            · cases h
          · split at h
            · rename_i g ea eb es' hj
              obtain ⟨lp, rfl, hf, sa, sb, hs⟩ := jarOf_ok hj
              obtain ⟨x, c1, h1, h⟩ := bo_some h
              obtain ⟨y, c2, h2, h⟩ := bo_some h
              obtain ⟨ds, c3, h3, h⟩ := bo_some h
              obtain ⟨a, b, cj, rfl, rfl, nd, hgr, nr, rfl⟩ := jarK_some h
              obtain ⟨ps, k, m, sem, G, hr, hk, hm, _⟩ := S.fn f g hf
              exact ev_callJ G hr hk gl.1 gl.2 (I.E _ _ _ _ _ h1) (I.E _ _ _ _ _ h2) (fun _ _ => star_of sa) (fun _ _ => star_of sb) (I.A _ _ _ _ _ h3) (noStars_of hs) (hm _ _ _ _ hgr) nd nr
            · split at h
              · rename_i hs
                split at h
                · rename_i g hf
                  obtain ⟨ds, c1, h1, h⟩ := bo_some h
                  obtain ⟨ps, k, m, sem, G, hr, hk, hm, _⟩ := S.fn f g hf
                  have a := I.A _ _ _ _ _ h1
                  have sm := hm _ _ _ _ (ask_some h)
                  cases es with
                  | nil =>
                    have z := iA_nil h1
                    obtain ⟨rfl, rfl⟩ := z
                    exact ev_call0 G hr hk gl.1 sm gl.2
                  | cons e es =>
                    have y := Bool.and_eq_true_iff.mp (show (noStar e && es.all noStar) = true from hs)
                    exact ev_call G hr hk gl.1 a sm gl.2 (star_of y.1) (noStars_of y.2)
                · split at h
                  · rename_i hf
                    split at h
                    · rename_i b hb
                      exact I.C b ρ es c d c' h f p pos hb hs hg (S.free _ hf)
                    · cases h
                  · cases h
              · cases h
        · cases h
      | _ => cases h
  | _ => cases h
theorem stepL (S : Sn X F C ic) (I : Sd X F C ic n) : ∀ ρ e c d c', (iL (n + 1) ic ρ e c).run = some (d, c') → EvL X F e ρ c d c' := by
  intro ρ e c d c' h
  cases e with
  | Name x pos =>
    obtain ⟨hh, rfl⟩ := mk_some (show (mk (nameL ic ρ x) c).run = _ from h)
    replace h := hh
    exact nameL_ok S h
  | _ => exact (I.E _ _ _ _ _ h).l
theorem stepA (I : Sd X F C ic n) : ∀ ρ es c ds c', (iA (n + 1) ic ρ es c).run = some (ds, c') → EvA X F es ρ c ds c' := by
  intro ρ es c ds c' h
  cases es with
  | nil => cases h; exact ea_nil
  | cons e es =>
    replace h : (if noStar e = true then bo (iE n ic ρ e c) fun d c => bo (iA n ic ρ es c) fun ds c => .leaf (d :: ds, c) else .fail : DT (List D × HO)).run = some (ds, c') := h
    split at h
    · rename_i hs
      obtain ⟨d, c1, h1, h⟩ := bo_some h
      obtain ⟨ds, c2, h2, h⟩ := bo_some h
      cases h
      exact ea_cons (I.E _ _ _ _ _ h1) (I.A _ _ _ _ _ h2) (star_of hs)
    · cases h
theorem stepO (I : Sd X F C ic n) : ∀ ρ e c d c', (iO (n + 1) ic ρ e c).run = some (d, c') → EvO X F e ρ c d c' := by
  intro ρ e c d c' h
  cases e with
  | none => cases h; rfl
  | some e =>
    obtain ⟨x, c1, h1, h⟩ := bo_some (show (bo (iE n ic ρ e c) _).run = _ from h)
    obtain ⟨hh, rfl⟩ := mk_some h
    replace h := hh
    unfold someI at h
    split at h
    · cases h; exact I.E _ _ _ _ _ h1
    · cases h
theorem asBl_some {d : D} {b : Bool} (h : asBl d = some b) : d = .bl b := by
  unfold asBl at h
  split at h
  · cases h; rfl
  · cases h
theorem stepT (S : Sn X F C ic) (I : Sd X F C ic n) : ∀ ρ e c d c', (iT (n + 1) ic ρ e c).run = some (d, c') → EvT X F e ρ c d c' := by
  intro ρ e c d c' h
  have gen : plainT e = true → (bo (iE n ic ρ e c) fun x c => mk (asBl x) c).run = some (d, c') → EvT X F e ρ c d c' := fun hp h => by
    obtain ⟨x, c1, h1, h⟩ := bo_some h
    obtain ⟨hh, rfl⟩ := mk_some h
    replace h := hh
    cases asBl_some h
    exact et_val (I.E _ _ _ _ _ h1) (plainT_of hp)
  cases e with
  | UnaryOp op a pos =>
    cases op with
    | Not =>
      obtain ⟨b, c1, h1, h⟩ := bo_some (show (bo (iT n ic ρ a c) _).run = _ from h)
      cases h
      exact et_not (I.T _ _ _ _ _ h1)
    | _ => cases h
  | BoolOp op es pos => exact et_w (I.W op ρ es c d c' h pos)
  | Compare a ops bs pos =>
    match ops, bs, h with
    | [op], [b], h =>
      obtain ⟨x, c1, h1, h⟩ := bo_some (show (bo (iL n ic ρ a c) _).run = _ from h)
      obtain ⟨y, c2, h2, h⟩ := bo_some h
      obtain ⟨hh, rfl⟩ := mt_some h
      replace h := cmpT_run hh
      obtain ⟨r, k1, k2, k3⟩ := cmpD_ok (X := X) (F := F) S.un h
      exact et_cmp k1 (k2 _) (I.L _ _ _ _ _ h1) (I.L _ _ _ _ _ h2) k3
    | [], _, h => cases h
    | _ :: _ :: _, _, h => cases h
    | [_], [], h => cases h
    | [_], _ :: _ :: _, h => cases h
  | IfExp => cases h
  | _ => exact gen rfl h
theorem stepW (I : Sd X F C ic n) : ∀ op ρ es c d c', (iW (n + 1) ic op ρ es c).run = some (d, c') → ∀ pos, EvW X F (.BoolOp op es pos) ρ c d c' := by
  intro op ρ es c d c' h pos
  match es, h with
  | [], h => cases h
  | [e], h =>
    have t := I.T ρ e c d c' h
    cases op with
    | And => exact ew_and1 t
    | Or => exact ew_or1 t
  | e :: e2 :: es, h =>
    cases op with
    | And =>
      obtain ⟨b, c1, h1, h⟩ := bo_some (show (bo (iT n ic ρ e c) _).run = _ from h)
      cases b with
      | true => exact ew_and (I.T _ _ _ _ _ h1) (fun _ => I.W .And ρ (e2 :: es) c1 d c' h pos) (fun z => by cases z)
      | false => cases h; exact ew_and (I.T _ _ _ _ _ h1) (fun z => by cases z) (fun _ => ⟨rfl, rfl⟩)
    | Or =>
      obtain ⟨b, c1, h1, h⟩ := bo_some (show (bo (iT n ic ρ e c) _).run = _ from h)
      cases b with
      | false => exact ew_or (I.T _ _ _ _ _ h1) (fun _ => I.W .Or ρ (e2 :: es) c1 d c' h pos) (fun z => by cases z)
      | true => cases h; exact ew_or (I.T _ _ _ _ _ h1) (fun z => by cases z) (fun _ => ⟨rfl, rfl⟩)
theorem stepB (I : Sd X F C ic n) : ∀ op ρ es c d c', (iB (n + 1) ic op ρ es c).run = some (d, c') → ∀ pos, Ev X F (.BoolOp op es pos) ρ c d c' := by
  intro op ρ es c d c' h pos
  match es, h with
  | [], h => cases h
  | [e], h => exact ev_one (I.E ρ e c d c' h)
  | e :: e2 :: es, h =>
    cases op with
    | And =>
      obtain ⟨b, c1, h1, h⟩ := bo_some (show (bo (iE n ic ρ e c) _).run = _ from h)
      split at h
      · rename_i b hb
        cases asBl_some hb
        cases b with
        | true => exact ev_and (I.E _ _ _ _ _ h1) (fun _ => I.B .And ρ (e2 :: es) c1 d c' h pos) (fun z => by cases z)
        | false => cases h; exact ev_and (I.E _ _ _ _ _ h1) (fun z => by cases z) (fun _ => ⟨rfl, rfl⟩)
      · cases h
    | Or =>
      obtain ⟨b, c1, h1, h⟩ := bo_some (show (bo (iE n ic ρ e c) _).run = _ from h)
      split at h
      · rename_i b hb
        cases asBl_some hb
        cases b with
        | false => exact ev_or (I.E _ _ _ _ _ h1) (fun _ => I.B .Or ρ (e2 :: es) c1 d c' h pos) (fun z => by cases z)
        | true => cases h; exact ev_or (I.E _ _ _ _ _ h1) (fun z => by cases z) (fun _ => ⟨rfl, rfl⟩)
      · cases h
theorem biOf_ok {x : Str} {b : BI} (h : biOf x = some b) : (match b with
    | .len => x = ("len" : Str)
    | .int => x = ("int" : Str)
    | .isinstance => x = ("isinstance" : Str)
    | .tuple => x = ("tuple" : Str)
    | .list => x = ("list" : Str)
    | .type => x = ("type" : Str)
    | .max => x = ("max" : Str)
    | .str => x = ("str" : Str)) := by
  unfold biOf at h
  repeat' split at h
  all_goals first | (rename_i e; cases h; exact e) | cases h
theorem stepC (S : Sn X F C ic) (I : Sd X F C ic n) : ∀ bi ρ es c d c', (iC (n + 1) ic bi ρ es c).run = some (d, c') → ∀ x p pos, biOf x = some bi → es.all noStar = true → glOk ic.sc x = true → X.mg x = none → Ev X F (.Call (.Name x p) es [] pos) ρ c d c' := by
  intro bi ρ es c d c' h x p pos hb hs hg hm
  have e0 := biOf_ok hb
  have g := (S.gl hg).1
  match es, h, hs with
  | [], h, _ => cases h
  | [e], h, hs =>
    have he : ∀ env : PySem.Env, starEach [e] env = (false, eval e env) :: starEach [] env := fun env => star_of (Bool.and_eq_true_iff.mp (show (noStar e && List.all [] noStar) = true from hs)).1
    cases bi with
    | len =>
      replace e0 : x = ("len" : Str) := e0
      subst e0
      obtain ⟨y, c1, h1, h⟩ := bo_some (show (bo (iL n ic ρ e c) _).run = _ from h)
      obtain ⟨hh, rfl⟩ := mk_some h
      replace h := hh
      unfold lenD at h
      split at h
      · rename_i z; cases h; exact ev_len g hm (I.L _ _ _ _ _ h1) z (he _)
      · cases h
    | int =>
      replace e0 : x = ("int" : Str) := e0
      subst e0
      obtain ⟨y, c1, h1, h⟩ := bo_some (show (bo (iE n ic ρ e c) _).run = _ from h)
      obtain ⟨hh, rfl⟩ := mk_some h
      replace h := hh
      unfold intD at h
      split at h
      · cases h; exact ev_int1 g hm (I.E _ _ _ _ _ h1) (he _)
      · cases h; exact ev_intb g hm (I.E _ _ _ _ _ h1) (he _)
      · cases h
    | list =>
      replace e0 : x = ("list" : Str) := e0
      subst e0
      obtain ⟨y, c1, h1, h⟩ := bo_some (show (bo (iL n ic ρ e c) _).run = _ from h)
      obtain ⟨hh, rfl⟩ := mk_some h
      replace h := hh
      unfold listD at h
      split at h
      · rename_i z; cases h; exact ev_list1 g hm (I.L _ _ _ _ _ h1) z (he _)
      · cases h
    | tuple =>
      replace e0 : x = ("tuple" : Str) := e0
      subst e0
      obtain ⟨y, c1, h1, h⟩ := bo_some (show (bo (iL n ic ρ e c) _).run = _ from h)
      obtain ⟨hh, rfl⟩ := mk_some h
      replace h := hh
      unfold tupD at h
      split at h
      · cases h; exact ev_tuple1 g hm (I.L _ _ _ _ _ h1) (he _)
      · cases h
    | type =>
      replace e0 : x = ("type" : Str) := e0
      subst e0
      obtain ⟨y, c1, h1, h⟩ := bo_some (show (bo (iL n ic ρ e c) _).run = _ from h)
      obtain ⟨hh, rfl⟩ := mk_some h
      replace h := hh
      unfold typeD at h
      split at h
      · rename_i z; cases h; exact ev_type g hm (I.L _ _ _ _ _ h1) z (he _)
      · cases h
    | str =>
      replace e0 : x = ("str" : Str) := e0
      subst e0
      obtain ⟨y, c1, h1, h⟩ := bo_some (show (bo (iE n ic ρ e c) _).run = _ from h)
      obtain ⟨hh, rfl⟩ := mt_some h
      replace h := hh
      unfold strT at h
      split at h
      · obtain ⟨z, h⟩ := req_some h
        cases h
        exact ev_strI g hm (I.E _ _ _ _ _ h1) (of_decide_eq_true z) (he _)
      · cases h
    | _ => cases h
  | [e, e2], h, hs =>
    have hs' := Bool.and_eq_true_iff.mp (show (noStar e && List.all [e2] noStar) = true from hs)
    have hs2 := Bool.and_eq_true_iff.mp (show (noStar e2 && List.all [] noStar) = true from hs'.2)
    have he : ∀ env : PySem.Env, starEach [e, e2] env = (false, eval e env) :: starEach [e2] env := fun env => star_of hs'.1
    have he2 : ∀ env : PySem.Env, starEach [e2] env = (false, eval e2 env) :: starEach [] env := fun env => star_of hs2.1
    have hpl : ∀ env : PySem.Env, (backTo pos (starEach [e2] env)).any (·.1) = false := fun env => noStars_of hs'.2
    cases bi with
    | isinstance =>
      replace e0 : x = ("isinstance" : Str) := e0
      subst e0
      obtain ⟨y, c1, h1, h⟩ := bo_some (show (bo (iE n ic ρ e c) _).run = _ from h)
      obtain ⟨t, c2, h2, h⟩ := bo_some h
      obtain ⟨hh, rfl⟩ := mt_some h
      obtain ⟨T, b, rfl, hz, hb, rfl⟩ := isiT_run hh
      exact ev_isi g hm (I.E _ _ _ _ _ h1) (I.E _ _ _ _ _ h2) hz hb (he _) (he2 _) (hpl _)
    | max =>
      replace e0 : x = ("max" : Str) := e0
      subst e0
      obtain ⟨y, c1, h1, h⟩ := bo_some (show (bo (iE n ic ρ e c) _).run = _ from h)
      obtain ⟨t, c2, h2, h⟩ := bo_some h
      obtain ⟨hh, rfl⟩ := mk_some h
      replace h := hh
      unfold maxD at h
      split at h
      · cases h; exact ev_max2 S.calm g hm (I.E _ _ _ _ _ h1) (I.E _ _ _ _ _ h2) (he _) (he2 _) (hpl _)
      · cases h
    | _ => cases h
  | _ :: _ :: _ :: _, h, _ => cases h
theorem seqD_ok {d : D} {l : List D} (h : seqD d = some l) : d = .tup l ∨ d = .lst l := by
  unfold seqD at h
  split at h
  · cases h; exact .inl rfl
  · cases h; exact .inr rfl
  · cases h
theorem stepR (S : Sn X F C ic) (I : Sd X F C ic n) : ∀ ρ e c ds c', (iR (n + 1) ic ρ e c).run = some (ds, c') → WalkD X F ρ c c' e ds := by
  intro ρ e c ds c' h
  cases hr : isRng e with
  | none =>
    replace h : (if noSet e = true then bo (iE n ic ρ e c) fun d c => mk (seqD d) c else .fail : DT (List D × HO)).run = some (ds, c') := by
      unfold iR at h
      rw [hr] at h
      exact h
    split at h
    · rename_i hs
      obtain ⟨d, c1, h1, h⟩ := bo_some h
      obtain ⟨hh, rfl⟩ := mk_some h
      rcases seqD_ok hh with rfl | rfl
      · exact .tup (I.E _ _ _ _ _ h1) hs
      · exact .lst (I.E _ _ _ _ _ h1) hs
    · cases h
  | some es =>
    obtain ⟨p, pos, rfl⟩ := isRng_ok hr
    replace h : (if glOk ic.sc "range" = true then (if ic.free "range" = true then (match (generalizing := false) es with
      | [] => .fail
      | a :: es => if noStar a = true then (match (generalizing := false) es with
        | [] => bo (iE n ic ρ a c) fun d c => mt (rng1T d) c
        | b :: es => if noStar b = true then (match (generalizing := false) es with
          | [] => bo (iE n ic ρ a c) fun d c => bo (iE n ic ρ b c) fun e c => mt (rng2T d e) c
          | _ :: _ => .fail) else .fail) else .fail) else .fail) else .fail : DT (List D × HO)).run = some (ds, c') := by
      unfold iR at h
      rw [hr] at h
      exact h
    split at h
    · rename_i hg
      have g := (S.gl hg).1
      split at h
      · rename_i hf
        have m := S.free _ hf
        match es, h with
        | [], h => cases h
        | [a], h =>
          replace h : (if noStar a = true then bo (iE n ic ρ a c) fun d c => mt (rng1T d) c else .fail : DT (List D × HO)).run = some (ds, c') := h
          split at h
          · rename_i hs
            obtain ⟨d, c1, h1, h⟩ := bo_some h
            obtain ⟨hh, rfl⟩ := mt_some h
            unfold rng1T at hh
            split at hh
            · obtain ⟨hb, hh⟩ := req_some hh
              · cases hh; exact .rng1 g m (I.E _ _ _ _ _ h1) hs (bnd_ok hb)
            · cases hh
          · cases h
        | [a, b], h =>
          replace h : (if noStar a = true then (if noStar b = true then bo (iE n ic ρ a c) fun d c => bo (iE n ic ρ b c) fun e c => mt (rng2T d e) c else .fail) else .fail : DT (List D × HO)).run = some (ds, c') := h
          split at h
          · rename_i hs
            split at h
            · rename_i hs2
              obtain ⟨d, c1, h1, h⟩ := bo_some h
              obtain ⟨e, c2, h2, h⟩ := bo_some h
              obtain ⟨hh, rfl⟩ := mt_some h
              unfold rng2T at hh
              split at hh
              · obtain ⟨hb, hh⟩ := req_some hh
                · cases hh
                  obtain ⟨b1, b2⟩ := Bool.and_eq_true_iff.mp hb
                  exact .rng2 g m (I.E _ _ _ _ _ h1) (I.E _ _ _ _ _ h2) hs hs2 ⟨(bnd_ok b1).1, (bnd_ok b1).2, (bnd_ok b2).1, (bnd_ok b2).2⟩
              · cases hh
            · cases h
          · cases h
        | a :: b :: d :: es, h =>
          replace h : (if noStar a = true then (if noStar b = true then .fail else .fail) else .fail : DT (List D × HO)).run = some (ds, c') := h
          split at h
          · split at h <;> cases h
          · cases h
      · cases h
    · cases h
/-- the block's own reading -/
abbrev icB (ic : IC) (scope : Scope) : IC := { ic with sc := relS scope ic.sc, cel := false, hof := fun _ => none }
theorem sn_blk {scope : Scope} (S : Sn X F C ic) (s : Shared) (H : Hp) (a : Addr) (cl : List (Str × Addr)) (fp : List Addr) : Sn (X.blk s H scope (compEnvC scope cl a X.env) fp) F C (icB ic scope) where
  N := S.N
  sc := show relS scope X.env.scope = _ by rw [S.sc]
  free := S.free
  gi := S.gi
  fn := S.fn
  hof := fun _ _ z => by cases z
  un := S.un
  calm := S.calm
  K := S.K
  nd := S.nd
  cel := fun z => by cases z
theorem lcI_ok {B : D → Rho → Option Rho} {Tf : Rho → HO → Option (Bool × HO)} {Vf : Rho → HO → Option (D × HO)} {g : TG} {vs : List Nat} {T : Rho → HO → Bool → HO → Prop} {V : Rho → HO → D → HO → Prop} (hB : ∀ d ρ ρ', B d ρ = some ρ' → BindC F g vs d ρ ρ') (hT : ∀ ρ c b c', Tf ρ c = some (b, c') → T ρ c b c') (hV : ∀ ρ c b c', Vf ρ c = some (b, c') → V ρ c b c') :
    ∀ {ds : List D} {c : HO} {es : List D} {c' : HO}, lcI B Tf Vf ρ ds c = some (es, c') → LcRel F g vs ρ T V ds c es c'
  | [], c, es, c', h => by cases h; exact .done _
  | d :: ds, c, es, c', h => by
    unfold lcI at h
    split at h
    · cases h
    · rename_i ρ1 hb
      obtain ⟨b, c1, h1, h⟩ := ob_some h
      cases b with
      | true =>
        obtain ⟨e, c2, h2, h⟩ := ob_some (show ob (Vf ρ1 c1) _ = _ from h)
        obtain ⟨es', c3, h3, h⟩ := ob_some h
        cases h
        exact .yes (hB _ _ _ hb) (hT _ _ _ _ h1) (hV _ _ _ _ h2) (lcI_ok hB hT hV h3)
      | false => exact .no (hB _ _ _ hb) (hT _ _ _ _ h1) (lcI_ok hB hT hV h)
theorem lst_some {α : Type} {o : Option (List D × HO)} {k : List D → HO → DT α} {z : α} (h : (DT.lst o k).run = some z) : ∃ l c, o = some (l, c) ∧ (k l c).run = some z := by
  cases o with
  | none => cases h
  | some p => exact ⟨p.1, p.2, rfl, h⟩
theorem stepG (S : Sn X F C ic) (I : Sd X F C ic n) (IH : ∀ (X : Cx) (ic : IC), Sn X F C ic → Sd X F C ic n) : ∀ ρ elt gs scope c es c', (iG (n + 1) ic ρ elt gs scope c).run = some (es, c') → LcAll X F ρ c es c' elt scope gs := by
  intro ρ elt gs scope c es c' h
  match gs, h with
  | [], h => cases h
  | _ :: _ :: _, h => cases h
  | [⟨tg, iter, ifs, asy⟩], h =>
    replace h : (if asy = 0 ∧ ifs.length ≤ 1 then (if blkC ic.N ic.sc scope (ownOf ic.N scope.names) = true then (match tgI (icB ic scope) n tg with
      | none => .fail
      | some t => if (t.ixs.all fun i => ((ownOf ic.N scope.names).map (·.2)).contains i) = true then bo (iR n ic ρ iter c) fun ds c => .lst (lcI t.bind (ifsI (fun e ρ c => (iT n (icB ic scope) ρ e c).run) ifs) (fun ρ c => (iE n (icB ic scope) ρ elt c).run) (wipeR ρ ((ownOf ic.N scope.names).map (·.2))) ds c) fun es c => .req (decide (es.length < sizeLine)) (.leaf (es, c)) else .fail) else .fail) else .fail : DT (List D × HO)).run = some (es, c') := h
    split at h
    · rename_i ha
      obtain ⟨ha, hl⟩ := ha
      subst ha
      split at h
      · rename_i hb
        split at h
        · cases h
        · rename_i t ht
          split at h
          · rename_i hi
            obtain ⟨ds, c1, h1, h⟩ := bo_some h
            obtain ⟨ls, c2, h2, h⟩ := lst_some h
            obtain ⟨hz, h⟩ := req_some h
            replace hz := of_decide_eq_true hz
            · cases h
              have hv : ∀ i ∈ t.ixs, i ∈ (ownOf ic.N scope.names).map (·.2) := fun i z => by
                have k := List.all_eq_true.mp hi i z
                exact List.contains_iff_mem.mp k
              have r : LcRel F (t.g F.K) ((ownOf ic.N scope.names).map (·.2)) (wipeR ρ ((ownOf ic.N scope.names).map (·.2))) (BT X F scope ifs) (BV X F scope elt) ds c1 es c' := by
                refine lcI_ok (fun d ρ ρ' z => Tg.bind_ok z hv) (fun ρ c b c' z => ?_) (fun ρ c d c' z s H a cl fp => (IH _ _ (sn_blk S s H a cl fp)).E _ _ _ _ _ z) h2
                match ifs, hl, z with
                | [], _, z => cases z; exact ⟨rfl, rfl⟩
                | [e], _, z => exact fun s H a cl fp => (IH _ _ (sn_blk S s H a cl fp)).T _ _ _ _ _ z
              obtain ⟨wi, w1, w2, w3⟩ := walk_lc (tg := tg) S.K (I.R _ _ _ _ _ h1) r hz
              refine .mk (own := ownOf ic.N scope.names) (g := t.g F.K) w1 w2 hl (by rw [S.N, S.sc]; exact hb) (fun s H a cl fp => ?_) w3
              have y := (tgI_ok (sn_blk S s H a cl fp) ht).1
              rw [show (X.blk s H scope (compEnvC scope cl a X.env) fp).K = F.K from S.K] at y
              exact y
          · cases h
      · cases h
    · cases h
theorem callOf_ok {e : Expr} {g : List D → HO → Option (Res × HO)} {es : List Expr} (h : callOf ic e = some (g, es)) : ∃ f p pos e0 es0, es = e0 :: es0 ∧ e = .Call (.Name f p) (e0 :: es0) [] pos ∧ glOk ic.sc f = true ∧ noStar e0 = true ∧ es0.all noStar = true ∧ ic.fn f = some g := by
  unfold callOf at h
  split at h
  · split at h
    · split at h
      · split at h
        · cases h
        · split at h
          · cases h
          split at h
          · rename_i hg
            split at h
            · rename_i hs
              split at h
              · rename_i hf
                cases h
                obtain ⟨a, b⟩ := Bool.and_eq_true_iff.mp hs
                exact ⟨_, _, _, _, _, rfl, rfl, hg, a, b, hf⟩
              · cases h
            · cases h
          · cases h
      · cases h
    · cases h
  · cases h
theorem ask_r {z : Option (Res × HO)} {r : Res} (h : (DT.ask z fun r c => .leaf (r, c)).run = some (r, c')) : z = some (r, c') := by
  cases z with
  | none => cases h
  | some p => exact h
theorem stepY (S : Sn X F C ic) (I : Sd X F C ic n) : ∀ ρ e c r c', (iY (n + 1) ic ρ e c).run = some (r, c') → (∀ d, r = .ok d → Ev X F e ρ c d c') ∧ ∀ k d, r = .ex k d → ∀ W, L2N.Takes X W → EvX ⟨X, F, W, C⟩ e ρ c k d c' := by
  intro ρ e c r c' h
  replace h : (match callOf ic e with
    | some (g, es) => bo (iA n ic ρ es c) fun ds c => DT.ask (g ds c) fun r c => .leaf (r, c)
    | none => match kwOf ic e with
      | some (g, e) => bo (iE n ic ρ e c) fun d c => DT.ask (g [d] c) fun r c => .leaf (r, c)
      | none => bo (iE n ic ρ e c) fun d c => .leaf (.ok d, c) : DT (Res × HO)).run = some (r, c') := h
  split at h
  · rename_i g es hc
    obtain ⟨f, p, pos, e0, es0, rfl, rfl, hg, hs, hs2, hf⟩ := callOf_ok hc
    obtain ⟨ds, c1, h1, h⟩ := bo_some h
    obtain ⟨ps, k, m, sem, G, hr, hk, hm, _⟩ := S.fn f g hf
    have gl := S.gl hg
    have sm := hm _ _ _ _ (ask_r h)
    refine ⟨fun d e => ?_, fun kk d e W _ => ?_⟩
    · subst e; exact ev_call G hr hk gl.1 (I.A _ _ _ _ _ h1) sm gl.2 (star_of hs) (noStars_of hs2)
    · subst e; exact evx_call (w := ⟨X, F, W, C⟩) G hr hk gl.1 (I.A _ _ _ _ _ h1) sm gl.2 (star_of hs) (noStars_of hs2)
  · split at h
    · rename_i g e1 hk
      obtain ⟨f, p, kx, kp, pos', rfl, hg, hp, hf⟩ := kwOf_ok hk
      obtain ⟨d1, c1, h1, h⟩ := bo_some h
      obtain ⟨ps, k, m, sem, G, hr, hk, hm, hq⟩ := S.fn f g hf
      have gl := S.gl hg
      rw [hq _ hp] at G
      have sm := hm _ _ _ _ (ask_r h)
      refine ⟨fun d e => ?_, fun kk d e W tk => ?_⟩
      · subst e
        exact fun hK L σ H o E Q q => wE_kw (W := fun _ _ _ _ => False) takesN0 G hr hk gl.1 (I.E _ _ _ _ _ h1) sm gl.2 hK o E (fun d' e => by cases e; exact q) fun _ _ e => by cases e
      · subst e
        exact fun hw L σ H o E q Q => wE_kw (W := W) tk G hr hk gl.1 (I.E _ _ _ _ _ h1) sm gl.2 hw.k o E (fun d' e => by cases e) fun _ _ e dd H' x => by cases e; exact q σ H' dd x
    · obtain ⟨d1, c1, h1, h⟩ := bo_some h
      cases h
      exact ⟨fun d e => by cases e; exact I.E _ _ _ _ _ h1, fun k d e => by cases e⟩
theorem sd_of : ∀ (n : Nat) (X : Cx) (F : Fx) (ic : IC), Sn X F C ic → Sd X F C ic n
  | 0, _, _, _, _ => sd_zero
  | n + 1, X, F, ic, S => have I := sd_of n X F ic S; ⟨stepE S I (sd_of n), stepL S I, stepA I, stepO I, stepT S I, stepW I, stepB I, stepR S I, stepG S I (fun X ic => sd_of n X F ic), stepC S I, stepY S I⟩
end
end Fh
end
section
set_option Elab.async false
set_option linter.all false
set_option maxRecDepth 100000
set_option maxHeartbeats 2000000
/-! for over range(a, b, -1). -/
namespace Fh
open PySem PySem.Spec PyProof.Rows L2
section
variable {w : Wh} {ρ : Rho} {c c1 : HO} {body : List Stmt} {g : TG} {o : Out} {tg a b : Expr} {pos p p3 p4 : Pos} {k3 : Option Str}
theorem sx_for_down {m n : Int} {c2 : HO} {e3 : Expr} (h3 : ∀ c, Ev w.X w.F e3 ρ c (.int (-1)) c) (r : ForRel w body g (rng m (-1) (m - n).toNat) ρ c2 o) (hg : PG w.X tg g) (hgl : Gl w.X "range") (hm : w.X.mg "range" = none) (h : Ev w.X w.F a ρ c (.int m) c1) (h2 : Ev w.X w.F b ρ c1 (.int n) c2) (hn : -(2 ^ 62) ≤ m ∧ m < 2 ^ 62 ∧ -(2 ^ 62) ≤ n ∧ n < 2 ^ 62) (hc : w.X.calm = true) (hp : PassesOwn (model w.X.prog w.X.w) w.X.A w.X.env w.X.xe)
    (he : starEach [a, b, e3] w.X.env = (false, eval a w.X.env) :: starEach [b, e3] w.X.env) (he2 : starEach [b, e3] w.X.env = (false, eval b w.X.env) :: starEach [e3] w.X.env) (he3 : starEach [e3] w.X.env = (false, eval e3 w.X.env) :: starEach [] w.X.env) (hs : ∀ x, foldedSetIterable (.Call (.Name "range" p) [a, b, e3] [] pos) w.X.env x = pure x) {pos2 : Pos} :
    Sx w (.For tg (.Call (.Name "range" p) [a, b, e3] [] pos) body [] pos2) ρ c o := fun hw Z σ H ⟨L, oo, E, z⟩ D' q => by
  refine wS_of (ps_for hp hc (pi_range3 hgl hm (pa_cons pe_w (pa_cons pe_w (pa_cons pe_w pa_nil he3) he2) he) he (by rw [he2, he3]; rfl)) hg pss_w hs) ?_
  refine h hw.k L σ H oo E _ fun v H1 s1 o1 r1 => h2 hw.k L σ H1 o1 (E.step oo.jL s1) _ fun v2 H2 s2 o2 r2 => h3 c2 hw.k L σ H2 o2 ((E.step oo.jL s1).step o1.jL s2) _ fun v3 H3 s3 o3 r3 => ?_
  cases r1
  cases r2
  cases r3
  have z2 := ((z.stp oo.jL s1).stp o1.jL s2).stp o2.jL s3
  have E3 := (((E.step oo.jL s1).step o1.jL s2).step o2.jL s3)
  refine ⟨m, n, -1, (m - n).toNat, rfl, RgC.neg hn.1 hn.2.1 hn.2.2.1 hn.2.2.2, for_rangeC (lo := m) (c := -1) (n := (m - n).toNat) (fun i σ H => TurnAt w body g Z o (rng (m + (i : Int) * (-1)) (-1) ((m - n).toNat - i)) σ H) ⟨ρ, c2, ⟨L, o3, E3, z2⟩, by rw [show m + ((0 : Nat) : Int) * (-1) = m by omega, Nat.sub_zero]; exact r⟩ ?_ ?_⟩
  · intro i σ' H' hi t
    have e : (m - n).toNat - i = ((m - n).toNat - (i + 1)) + 1 := by omega
    have e2 : m + ((i + 1 : Nat) : Int) * (-1) = m + (i : Int) * (-1) + (-1) := by omega
    rw [e] at t
    refine turn_run hw q t (fun L' c' o' k' => .int _) (fun _ _ a => ?_) (fun _ _ a => ?_)
    · rw [e2]; exact a
    · rw [e2]; exact a
  · intro σ' H' t
    rw [Nat.sub_self] at t
    exact turn_end q t
end
end Fh
end
section
set_option Elab.async false
set_option linter.all false
set_option maxRecDepth 100000
set_option maxHeartbeats 2000000
/-! The reader of statements. -/
namespace Fh
open PySem PySem.Spec PyProof.Rows L2
inductive EO where
  | v (d : D) (c : HO)
  | x (k : Str) (d : D) (c : HO)
def noComp : Expr → Bool
  | .ListComp .. => false
  | .SetComp .. => false
  | .DictComp .. => false
  | _ => true
def noDisp : Expr → Bool
  | .Tuple .. => false
  | _ => true
def eoT : Res → HO → DT EO
  | .ok d, c => .leaf (.v d c)
  | .ex k d, c => .leaf (.x k d c)
/-- an expression that may raise -/
def iX (n : Nat) (ic : IC) (ρ : Rho) (e : Expr) (c : HO) : DT EO := bo (iY n ic ρ e c) eoT
/-- names that are read as things -/
def escs (f : Expr → List Str) : List Expr → List Str
  | [] => []
  | e :: es => f e ++ escs f es
def escL (f : Expr → List Str) : Expr → List Str
  | .Name .. => []
  | e => f e
def reads : Expr → Bool
  | .Name x _ => decide (x = ("len" : Str)) || decide (x = ("tuple" : Str)) || decide (x = ("list" : Str)) || decide (x = ("type" : Str))
  | _ => false
def escC (f : Expr → List Str) : List Comprehension → List Str
  | [] => []
  | g :: gs => f g.iter ++ escs f g.ifs ++ escC f gs
def escO (f : Expr → List Str) : Option Expr → List Str
  | none => []
  | some e => f e
def escK (f : Expr → List Str) : List Keyword → List Str
  | [] => []
  | ⟨_, e, _⟩ :: ks => f e ++ escK f ks
def esc : Nat → Expr → List Str
  | 0, _ => []
  | n + 1, e => match e with
    | .Name x _ => [x]
    | .Tuple es _ _ => escs (esc n) es
    | .List es _ => escs (esc n) es
    | .BinOp a _ b _ => esc n a ++ esc n b
    | .Compare a _ bs _ => escL (esc n) a ++ escs (escL (esc n)) bs
    | .UnaryOp _ a _ => esc n a
    | .BoolOp _ es _ => escs (esc n) es
    | .IfExp t a b _ => esc n t ++ esc n a ++ esc n b
    | .Subscript a i _ => escL (esc n) a ++ esc n i
    | .Slice a b c _ => escO (esc n) a ++ escO (esc n) b ++ escO (esc n) c
    | .Call f es ks _ => cond (reads f) (escs (escL (esc n)) es) (escs (esc n) es) ++ escK (esc n) ks
    | .Lambda _ b _ _ => esc n b
    | .ListComp elt gs _ _ => esc n elt ++ escC (esc n) gs
    | _ => []
def frz1 (N : List Str) (x : Str) (ρ : Rho) : Rho := match ixOf x N 0 with
  | some i => match ρ[i]? with
    | some (some (.ow ds)) => ρ.set i (some (.fr (.lst ds)))
    | _ => ρ
  | none => ρ
/-- the list is laid bare first -/
def forceR {β : Type} : Rho → (Rho → β) → β
  | [], k => k []
  | x :: ρ, k => forceR ρ fun ρ' => k (x :: ρ')
theorem forceR_eq {β : Type} : ∀ {ρ : Rho} {k : Rho → β}, forceR ρ k = k ρ
  | [], _ => rfl
  | x :: ρ, k => by
    show forceR ρ (fun ρ' => k (x :: ρ')) = _
    rw [forceR_eq]
def frz (N : List Str) : List Str → Rho → Rho
  | [], ρ => ρ
  | x :: xs, ρ => forceR (frz1 N x ρ) (frz N xs)
/-- x.append(e), x.extend(e) -/
inductive Ao where
  | app | ext
def appOf : Expr → Option (Ao × Str × Expr)
  | .Call f es ks p => match ks with
    | [] => match f with
      | .Attribute o a ap => match o with
        | .Name x _ => match es with
          | [e] => if (ap.endLine == p.line) = true then (if noStar e = true then (if a = ("append" : Str) then some (.app, x, e) else if a = ("extend" : Str) then some (.ext, x, e) else none) else none) else none
          | _ => none
        | _ => none
      | _ => none
    | _ => none
  | _ => none
def escS (n : Nat) : Stmt → List Str
  | .Expr e _ => match appOf e with
    | some (.app, _, e) => esc n e
    | some (.ext, _, e) => escL (esc n) e
    | none => esc n e
  | .Return e _ => escO (esc n) e
  | .If t _ _ _ => esc n t
  | .Assign _ e _ => esc n e
  | .For _ e _ _ _ => esc n e
  | .Raise e _ _ => escO (esc n) e
  | _ => []
/-- a new list -/
def newOf (n : Nat) (ic : IC) (ρ : Rho) (e : Expr) (c : HO) : Option (DT (List D × HO)) := match e with
  | .List es _ => some (bo (iA n ic ρ es c) fun ds c => .req (decide (ds.length ≤ sizeLine)) (.leaf (ds, c)))
  | _ => none
def forI (body : Rho → HO → Option Out) (B : D → Rho → Option Rho) : List D → Rho → HO → Option Out
  | [], ρ, c => some (.nx ρ c)
  | d :: ds, ρ, c => match B d ρ with
    | none => none
    | some ρ1 => match body ρ1 c with
      | some (.nx ρ2 c2) => forI body B ds ρ2 c2
      | some (.ct ρ2 c2) => forI body B ds ρ2 c2
      | some (.brk ρ2 c2) => some (.nx ρ2 c2)
      | some (.ret r c2) => some (.ret r c2)
      | some (.exn _ _ _) => none
      | none => none
def enumOf : Expr → Option Expr
  | .Call f es ks _ => match f with
    | .Name x _ => if x = ("enumerate" : Str) then (match ks with
      | [] => match es with
        | [a] => some a
        | _ => none
      | _ => none) else none
    | _ => none
  | _ => none
/-- range(a, b, -1) -/
def downOf : Expr → Option (Expr × Expr)
  | .Call f es ks _ => match f with
    | .Name x _ => if x = ("range" : Str) then (match ks with
      | [] => match es with
        | [a, b, e3] => if (isRev (some e3) && noStar a && noStar b) = true then some (a, b) else none
        | _ => none
      | _ => none) else none
    | _ => none
  | _ => none
def isTup : Expr → Bool
  | .Tuple .. => true
  | _ => false
def tupsD (d : D) : Option (List D) := match d with
  | .tup l => some l
  | _ => none
/-- x, y = a, b: the two names -/
def parB (ic : IC) (x y : Str) (px py : Pos) (a b : Expr) : Bool := (match ic.sc.kind with | .function => true | _ => false) && (match ic.sc.names.lookup x with | some .local => true | _ => false) && (match ic.sc.names.lookup y with | some .local => true | _ => false) && (px.line == py.line) && !(decide (x = y)) && noStar a && noStar b && !([a, b].all (foldedForSure 8)) && !([a, b].all (constantsAlone 8))
def parOk (ic : IC) (tg e : Expr) : Option (Str × Str × Expr × Expr) := match tg with
  | .Tuple ts _ _ => match ts with
    | [.Name x px, .Name y py] => match e with
      | .Tuple vs _ _ => match vs with
        | [a, b] => if parB ic x y px py a b = true then some (x, y, a, b) else none
        | _ => none
      | _ => none
    | _ => none
  | _ => none
/-- x, y, z = a, b, c: the three names -/
def parB3 (ic : IC) (x y z : Str) (px py pz : Pos) (a b c : Expr) : Bool := (match ic.sc.kind with | .function => true | _ => false) && (match ic.sc.names.lookup x with | some .local => true | _ => false) && (match ic.sc.names.lookup y with | some .local => true | _ => false) && (match ic.sc.names.lookup z with | some .local => true | _ => false) && decide (px.line = py.line) && decide (px.line = pz.line) && !(decide (x = y)) && !(decide (x = z)) && !(decide (y = z)) && noStar a && noStar b && noStar c && !([a, b, c].all (foldedForSure 8)) && !([a, b, c].all (constantsAlone 8))
def par3Ok (ic : IC) (tg e : Expr) : Option (Str × Str × Str × Expr × Expr × Expr) := match tg with
  | .Tuple ts _ _ => match ts with
    | [.Name x px, .Name y py, .Name z pz] => match e with
      | .Tuple vs _ _ => match vs with
        | [a, b, c] => if parB3 ic x y z px py pz a b c = true then some (x, y, z, a, b, c) else none
        | _ => none
      | _ => none
    | _ => none
  | _ => none
def i3 (n : Nat) (ic : IC) (ρ : Rho) (x y z : Str) (ea eb ec : Expr) (c : HO) : DT Out := match ixOf x ic.N 0 with
  | some i => match ixOf y ic.N 0 with
    | some j => match ixOf z ic.N 0 with
      | some l => if (asgOk ic i x && asgOk ic j y && asgOk ic l z && decide (i < ρ.length) && decide (j < ρ.length) && decide (l < ρ.length)) = true then bo (iE n ic ρ ea c) fun d c => bo (iE n ic ρ eb c) fun e c => bo (iE n ic ρ ec c) fun f c => .leaf (.nx (((ρ.set i (some (.fr d))).set j (some (.fr e))).set l (some (.fr f))) c) else .fail
      | none => .fail
    | none => .fail
  | none => .fail
/-- x = [.. for ..]: does the block's own store come last -/
def swpB (ic : IC) (x : Str) (px : Pos) (scope : Scope) (pos : Pos) : Bool := (match ic.sc.kind with | .function => true | _ => false) && (match ic.sc.names.lookup x with | some .local => true | _ => false) && (px.line == pos.line) && !(scope.names.any fun (n, k) => n == x && (k == .local || k == .cell))
def notSwp (ic : IC) (x : Str) (px : Pos) (scope : Scope) (pos : Pos) : Bool := (match ic.sc.kind with | .function => true | _ => false) && !((match ic.sc.names.lookup x with | some .local => true | _ => false) && (px.line == pos.line) && !(scope.names.any fun (n, k) => n == x && (k == .local || k == .cell)))
def lcOf : Expr → Option (Expr × List Comprehension × Scope × Pos)
  | .ListComp elt gs scope pos => some (elt, gs, scope, pos)
  | _ => none
/-- x.append(e), x.extend(e) -/
def aoI (n : Nat) (ic : IC) (ρ : Rho) (a : Ao) (x : Str) (e : Expr) (c : HO) : DT Out := match ixOf x ic.N 0 with
  | some i => if varOk ic.N ic.sc i x = true then (match ρ[i]? with
    | some (some (.ow ds)) => match a with
      | .app => bo (iE n ic ρ e c) fun d c => .req (decide (ds.length < sizeLine)) (.leaf (.nx (ρ.set i (some (.ow (ds ++ [d])))) c))
      | .ext => bo (iL n ic ρ e c) fun d c => match d with
        | .lst es => .req (decide (ds.length + es.length ≤ sizeLine)) (.leaf (.nx (ρ.set i (some (.ow (ds ++ es)))) c))
        | _ => .fail
    | _ => .fail) else .fail
  | none => .fail
def eoE (ρ : Rho) : EO → DT Out
  | .v _ c => .leaf (.nx ρ c)
  | .x k d c => .leaf (.exn k d c)
def eoRet : EO → DT Out
  | .v d c => .leaf (.ret d c)
  | .x k d c => .leaf (.exn k d c)
def eoSet (ρ : Rho) (i : Nat) : EO → DT Out
  | .v d c => .leaf (.nx (ρ.set i (some (.fr d))) c)
  | .x k d c => .leaf (.exn k d c)
def exS (n : Nat) (ic : IC) (ρ : Rho) (e : Expr) (c : HO) : DT Out := match appOf e with
  | some (a, x, e) => aoI n ic ρ a x e c
  | none => if noComp e = true then (iX n ic ρ e c).bind (eoE ρ) else .fail
/-- raise x(e) -/
def raiseOf : Option Expr → Option (Str × Expr)
  | some (.Call g es ks _) => match ks with
    | [] => match g with
      | .Name x _ => match es with
        | [e] => some (x, e)
        | _ => none
      | _ => none
    | _ => none
  | _ => none
/-- jar[m] = .. -/
def jarT : Expr → Option (Str × Nat)
  | .Subscript (.Name x _) (.Constant (.int m) _ _) _ => if m = 0 then some (x, 0) else if m = 1 then some (x, 1) else none
  | _ => none
def jarS (ic : IC) (ρ : Rho) (x : Str) (m : Nat) (d : D) (c : HO) : DT Out := match d with
  | .int k => match nameD ic ρ x with
    | some .jar => match c with
      | .lst [.int a, .int b] => .leaf (.nx ρ (if m = 0 then J k b else J a k))
      | _ => .fail
    | _ => .fail
  | _ => .fail
/-- return, a written thing -/
def retC : List Stmt → Option Const
  | [.Return (some (.Constant k _ _)) _] => some k
  | _ => none
/-- try: body / except x: return k -/
def tryOf : Stmt → Option (List Stmt × Str × Const)
  | .Try body [.ExceptHandler (some (.Name x _)) none suite _] [] [] _ => match retC suite with
    | some k => some (body, x, k)
    | none => none
  | _ => none
def tryK (ic : IC) (x : Str) (k : Const) : Out → DT Out
  | .exn kk _ c => if (ic.cat kk x && glOk ic.sc x) = true then (match constD k with
    | some d => .leaf (.ret d c)
    | none => .fail) else .fail
  | o => .leaf o
mutual
def iS : Nat → IC → (Str → Bool) → Rho → Stmt → HO → DT Out
  | 0, _, _, _, _, _ => .fail
  | n + 1, ic, er, ρ, st, c => match st with
    | .Expr e _ => exS n ic ρ e c
    | .Return e _ => match e with
      | some e => (iX n ic ρ e c).bind eoRet
      | none => .leaf (.ret .non c)
    | .If t a b _ => bo (iT n ic ρ t c) fun v c => DT.node v (iSs n ic er ρ a c) (iSs n ic er ρ b c)
    | .Pass _ => (.leaf (.nx ρ c))
    | .Break _ => .leaf (.brk ρ c)
    | .Continue _ => .leaf (.ct ρ c)
    | .Assign tgs e _ => match tgs with
      | [tg] => match tg with
        | .Name x px => match ixOf x ic.N 0 with
          | some i => if (asgOk ic i x && decide (i < ρ.length)) = true then (match lcOf e with
            | some (elt, gs, scope, p) => if (swpB ic x px scope p || notSwp ic x px scope p) = true then bo (iG n ic ρ elt gs scope c) fun ds c => .leaf (.nx (ρ.set i (some (.ow ds))) c) else .fail
            | none => match newOf n ic ρ e c with
            | some r => if noComp e = true then bo r fun ds c => .leaf (.nx (ρ.set i (some (.ow ds))) c) else .fail
            | none => if noComp e = true then (iX n ic ρ e c).bind (eoSet ρ i) else .fail) else .fail
          | none => .fail
        | tg => match parOk ic tg e with
          | some (x, y, a, b) => match ixOf x ic.N 0 with
            | some i => match ixOf y ic.N 0 with
              | some j => if (asgOk ic i x && asgOk ic j y && decide (i < ρ.length) && decide (j < ρ.length)) = true then (match newOf n ic ρ a c with
                | some r => bo r fun ds c => bo (iE n ic ρ b c) fun e c => .leaf (.nx ((ρ.set i (some (.ow ds))).set j (some (.fr e))) c)
                | none => bo (iE n ic ρ a c) fun d c => bo (iE n ic ρ b c) fun e c => .leaf (.nx ((ρ.set i (some (.fr d))).set j (some (.fr e))) c)) else .fail
              | none => .fail
            | none => .fail
          | none => match par3Ok ic tg e with
          | some (x, y, z, ea, eb, ec) => i3 n ic ρ x y z ea eb ec c
          | none => match jarT tg with
          | some (x, m) => if (noDisp e && noComp e) = true then bo (iE n ic ρ e c) fun d c => jarS ic ρ x m d c else .fail
          | none => if (noDisp e && noComp e && isTup tg) = true then (match tgI ic n tg with
            | some t => bo (iE n ic ρ e c) fun d c => match t.bind d ρ with
              | some ρ1 => .leaf (.nx ρ1 c)
              | none => .fail
            | none => .fail) else .fail
      | _ => .fail
    | .For tg it body els _ => match els with
      | [] => match tgI ic n tg with
        | some t => match enumOf it with
          | some a => if (isTup tg && noStar a && glOk ic.sc "enumerate" && ic.free "enumerate") = true then bo (iE n ic ρ a c) fun d c => match tupsD d with
            | some ds => .loop (forI (fun ρ c => (iSs n ic (fun _ => false) ρ body c).run) t.bind (enumD 0 ds) ρ c) .leaf
            | none => .fail else .fail
          | none => match downOf it with
          | some (a, b) => if (glOk ic.sc "range" && ic.free "range") = true then bo (iE n ic ρ a c) fun d c => bo (iE n ic ρ b c) fun e c => bo (mt (rngDT d e) c) fun ds c => .loop (forI (fun ρ c => (iSs n ic (fun _ => false) ρ body c).run) t.bind ds ρ c) .leaf else .fail
          | none => bo (iR n ic ρ it c) fun ds c => .loop (forI (fun ρ c => (iSs n ic (fun _ => false) ρ body c).run) t.bind ds ρ c) .leaf
        | none => .fail
      | _ => .fail
    | .Raise e f _ => match f with
      | none => match raiseOf e with
        | some (x, e) => if (er x && glOk ic.sc x && noStar e) = true then bo (iE n ic ρ e c) fun d c => .leaf (.exn x d c) else .fail
        | none => .fail
      | _ => .fail
    | st => match tryOf st with
      | some (body, x, k) => if (ic.cat x x && glOk ic.sc x) = true then (iSs n ic er ρ body c).bind (tryK ic x k) else .fail
      | none => .fail
def iSs : Nat → IC → (Str → Bool) → Rho → List Stmt → HO → DT Out
  | 0, _, _, _, _, _ => .fail
  | n + 1, ic, er, ρ, sts, c => match sts with
    | [] => .leaf (.nx ρ c)
    | st :: sts => (forceR (frz ic.N (escS n st) ρ) fun ρ => iS n ic er ρ st c).bind fun o => match o with
      | .nx ρ c => iSs n ic er ρ sts c
      | o => .leaf o
end
end Fh
end
section
set_option Elab.async false
set_option linter.all false
set_option maxRecDepth 100000
set_option maxHeartbeats 2000000
/-! What the reader of statements tells holds. -/
namespace Fh
open PySem PySem.Spec PyProof.Rows L2
structure Sw (w : Wh) (ic : IC) (er : Str → Bool) : Prop where
  S : Sn w.X w.F w.C ic
  er : ∀ x, er x = true → ∃ k, ErrC w.X.prog w.X.w w.X.K w.X.mg w.X.base w.C x ∧ Room k w.X.A ∧ 2 ≤ k
  cat : ∀ k x, ic.cat k x = true → PySem.W.exmOne w.X.K (.ref (w.C k)) (.ref (w.C x)) = some true ∧ w.X.mg x = some (.ref (w.C x))
  st : w.X.stack = w.X.env :: w.X.outer
  fr : w.X.env.frame = some w.X.env.locals
theorem Sw.tr {w : Wh} {ic : IC} {er : Str → Bool} (h : Sw w ic er) (W : WX) (pn : List (Addr × Obj)) (xe : Value → Shared → Prop) : Sw ⟨w.X.tr pn xe, w.F, W, w.C⟩ ic er := ⟨⟨h.S.N, h.S.sc, h.S.free, h.S.gi, h.S.fn, h.S.hof, h.S.un, h.S.calm, h.S.K, h.S.nd, h.S.cel⟩, h.er, h.cat, h.st, h.fr⟩
theorem Sw.nox {w : Wh} {ic : IC} {er : Str → Bool} (h : Sw w ic er) : Sw ⟨w.X.nox, w.F, fun _ _ _ _ => False, w.C⟩ ic (fun _ => false) := ⟨⟨h.S.N, h.S.sc, h.S.free, h.S.gi, h.S.fn, h.S.hof, h.S.un, h.S.calm, h.S.K, h.S.nd, h.S.cel⟩, fun x z => (by cases z), h.cat, h.st, h.fr⟩
section
variable {w : Wh} {ic : IC} {er : Str → Bool} {n : Nat} {ρ : Rho} {c c' : HO} {e : Expr} {d : D} {st : Stmt} {sts : List Stmt} {o : Out}
theorem dbind_some {α β : Type} {t : DT α} {g : α → DT β} {z : β} (h : (t.bind g).run = some z) : ∃ a, t.run = some a ∧ (g a).run = some z := by
  rw [DT.run_bind] at h
  cases e : t.run with
  | none => rw [e] at h; cases h
  | some p =>
    rw [e] at h
    exact ⟨p, rfl, h⟩
theorem loop_some {z : Option Out} (h : (DT.loop z DT.leaf).run = some o) : z = some o := by
  cases z with
  | none => cases h
  | some p => exact h
theorem iX_v (S : Sn w.X w.F w.C ic) (h : (iX n ic ρ e c).run = some (.v d c')) : Ev w.X w.F e ρ c d c' := by
  unfold iX at h
  obtain ⟨r, c1, h1, h⟩ := bo_some h
  cases r with
  | ok d1 =>
    cases h
    exact ((sd_of n _ _ _ S).Y _ _ _ _ _ h1).1 _ rfl
  | ex k d1 => cases h
theorem iX_x {k : Str} (S : Sn w.X w.F w.C ic) (h : (iX n ic ρ e c).run = some (.x k d c')) : EvX w e ρ c k d c' := by
  unfold iX at h
  obtain ⟨r, c1, h1, h⟩ := bo_some h
  cases r with
  | ok d1 => cases h
  | ex k1 d1 =>
    cases h
    exact fun hw => ((sd_of n _ _ _ S).Y _ _ _ _ _ h1).2 _ _ rfl w.W hw.tk hw
theorem sxs_frz1 {N : List Str} {x : Str} (h : Sxs w sts (frz1 N x ρ) c o) : Sxs w sts ρ c o := by
  unfold frz1 at h
  split at h
  · split at h
    · rename_i hi; exact sxs_freeze _ hi h
    · exact h
  · exact h
theorem sxs_frz {N : List Str} : ∀ {xs : List Str} {ρ : Rho}, Sxs w sts (frz N xs ρ) c o → Sxs w sts ρ c o
  | [], _, h => h
  | x :: xs, ρ, h => by
    have e : frz N (x :: xs) ρ = frz N xs (frz1 N x ρ) := forceR_eq
    rw [e] at h
    exact sxs_frz1 (sxs_frz h)
theorem swN {env : PySem.Env} {l : Nat} (h : noComp e = true) (t : Option Expr) : swapsWith e t l env = pure false := by
  cases e with
  | ListComp => cases h
  | SetComp => cases h
  | DictComp => cases h
  | _ => rfl
theorem swS {env : PySem.Env} {l : Nat} {t : Expr} (h : noComp e = true) : swapsWithSole [t] e l env = pure false := swN h _
theorem swD {env : PySem.Env} {t : Expr} (h : noDisp e = true) : swappedStores [t] e env = pure none := by
  cases e with
  | Tuple => cases h
  | _ =>
    cases t with
    | _ => rfl
theorem swNm {env : PySem.Env} {x : Str} {px : Pos} : swappedStores [.Name x px] e env = pure none := by
  cases e with
  | _ => rfl
theorem appOf_ok {a : Ao} {x : Str} {v : Expr} (h : appOf e = some (a, x, v)) : ∃ px ap pos, e = .Call (.Attribute (.Name x px) (match a with | .app => ("append" : Str) | .ext => ("extend" : Str)) ap) [v] [] pos ∧ (ap.endLine == pos.line) = true ∧ noStar v = true := by
  unfold appOf at h
  split at h
  · split at h
    · split at h
      · split at h
        · split at h
          · split at h
            · rename_i h1
              split at h
              · rename_i h2
                split at h
                · rename_i h3; cases h; subst h3; exact ⟨_, _, _, rfl, h1, h2⟩
                · split at h
                  · rename_i h3; cases h; subst h3; exact ⟨_, _, _, rfl, h1, h2⟩
                  · cases h
              · cases h
            · cases h
          · cases h
        · cases h
      · cases h
    · cases h
  · cases h
theorem forI_ok {body : Rho → HO → Option Out} {B : D → Rho → Option Rho} {g : TG} {sb : List Stmt} (hB : ∀ d ρ ρ', B d ρ = some ρ' → BindD w.F g d ρ ρ') (hb : ∀ ρ c o, body ρ c = some o → Sxs w sb ρ c o) : ∀ {ds : List D} {ρ : Rho} {c : HO} {o : Out}, forI body B ds ρ c = some o → ForRel w sb g ds ρ c o ∧ ∀ k d c, o ≠ .exn k d c
  | [], ρ, c, o, h => by cases h; exact ⟨.done _ _, fun _ _ _ z => by cases z⟩
  | d :: ds, ρ, c, o, h => by
    unfold forI at h
    split at h
    · cases h
    · rename_i ρ1 h1
      split at h
      · rename_i h2
        have y := forI_ok hB hb h
        exact ⟨.nx (hB _ _ _ h1) (hb _ _ _ h2) y.1, y.2⟩
      · rename_i h2
        have y := forI_ok hB hb h
        exact ⟨.ct (hB _ _ _ h1) (hb _ _ _ h2) y.1, y.2⟩
      · rename_i h2
        cases h
        exact ⟨.brk (hB _ _ _ h1) (hb _ _ _ h2), fun _ _ _ z => by cases z⟩
      · rename_i h2
        cases h
        exact ⟨.ret (hB _ _ _ h1) (hb _ _ _ h2), fun _ _ _ z => by cases z⟩
      · cases h
      · cases h
theorem enumOf_ok {a : Expr} (h : enumOf e = some a) : ∃ p pos, e = .Call (.Name "enumerate" p) [a] [] pos := by
  unfold enumOf at h
  split at h
  · split at h
    · split at h
      · rename_i hx
        split at h
        · split at h
          · cases h; subst hx; exact ⟨_, _, rfl⟩
          · cases h
        · cases h
      · cases h
    · cases h
  · cases h
theorem downOf_ok {a b : Expr} (h : downOf e = some (a, b)) : ∃ p e3 pos, e = .Call (.Name "range" p) [a, b, e3] [] pos ∧ isRev (some e3) = true ∧ noStar a = true ∧ noStar b = true := by
  unfold downOf at h
  split at h
  · split at h
    · split at h
      · rename_i hx
        split at h
        · split at h
          · split at h
            · rename_i hb
              cases h
              subst hx
              have y := Bool.and_eq_true_iff.mp hb
              have y2 := Bool.and_eq_true_iff.mp y.1
              exact ⟨_, _, _, rfl, y2.1, y2.2, y.2⟩
            · cases h
          · cases h
        · cases h
      · cases h
    · cases h
  · cases h
theorem walk_for {tg : Expr} {g : TG} {sb : List Stmt} {ds : List D} {c1 : HO} {pos : Pos} (hc : w.X.calm = true) (h : WalkD w.X.nox w.F ρ c c1 e ds) (r : ForRel ⟨w.X.nox, w.F, fun _ _ _ _ => False, w.C⟩ sb g ds ρ c1 o) (hg : PG w.X.nox tg g) (ho : ∀ k d c, o ≠ .exn k d c) : Sx w (.For tg e sb [] pos) ρ c o := by
  refine sx_nox ?_ ho
  cases h with
  | lst h hs => exact sx_for_lst r hg h hc PassesOwn.never (noSet_of hs _)
  | tup h hs => exact sx_for_tup r hg h hc PassesOwn.never (noSet_of hs _)
  | rng1 g m h hs hn => exact sx_for_rng1 r hg g m h hn hc PassesOwn.never (star_of hs) (fun _ => rfl)
  | rng2 g mm h h2 hs hs2 hn => exact sx_for_rng2 r hg g mm h h2 hn hc PassesOwn.never (by rw [star_of hs, star_of hs2]; rfl) (star_of hs2) (fun _ => rfl)
theorem sx_cont {pos : Pos} : Sx w (.Continue pos) ρ c (.ct ρ c) := fun hw Z σ H a D q => wS_of ps_continue (q σ H a)
theorem sx_retN {pos : Pos} : Sx w (.Return none pos) ρ c (.ret .non c) := fun hw Z σ H ⟨L, oo, E, _⟩ D q => wS_of ps_retN (q .non H oo.drop .non)
theorem sx_setX {kk : Str} {x : Str} {px pos : Pos} {i : Nat} (h : EvX w e ρ c kk d c') (hN : w.X.N.Nodup) (hi : w.X.N[i]? = some x) (hx : L2.Loc w.X.env.scope x) (hf : w.X.fn x = true ∨ w.X.env.scope.names.lookup x = some .local)
    (s1 : swapsWithSole [(.Name x px)] e pos.line w.X.env = pure false) (s2 : swappedStores [(.Name x px)] e w.X.env = pure none) : Sx w (.Assign [.Name x px] e pos) ρ c (.exn kk d c') := fun hw Z σ H ⟨L, oo, E, z⟩ D q =>
  wS_of (ps_asg pe_w (pg_name hN hi hx hf) s1 s2 rfl) (h hw L σ H oo E q _)
theorem newOf_ok (S : Sn w.X w.F w.C ic) {r : DT (List D × HO)} {ds : List D} (h : newOf n ic ρ e c = some r) (hr : r.run = some (ds, c')) : EvN w.X w.F e ρ c ds c' := by
  have I := sd_of n _ _ _ S
  unfold newOf at h
  split at h
  · cases h
    obtain ⟨ds', c1, h1, h⟩ := bo_some hr
    obtain ⟨hz, h⟩ := req_some h
    cases h
    exact evn_lst (I.A _ _ _ _ _ h1) (of_decide_eq_true hz)
  · cases h
theorem tupsD_ok {d : D} {l : List D} (h : tupsD d = some l) : d = .tup l := by
  unfold tupsD at h
  split at h
  · cases h; rfl
  · cases h
theorem and4 {a b c d : Bool} (h : (a && b && c && d) = true) : a = true ∧ b = true ∧ c = true ∧ d = true := by
  cases a <;> cases b <;> cases c <;> cases d <;> first | exact ⟨rfl, rfl, rfl, rfl⟩ | cases h
theorem and3 {a b c : Bool} (h : (a && b && c) = true) : a = true ∧ b = true ∧ c = true := by
  cases a <;> cases b <;> cases c <;> first | exact ⟨rfl, rfl, rfl⟩ | cases h
structure Ss (w : Wh) (ic : IC) (er : Str → Bool) (n : Nat) : Prop where
  S : ∀ ρ st c o, (iS n ic er ρ st c).run = some o → Sx w st ρ c o
  Ss : ∀ ρ sts c o, (iSs n ic er ρ sts c).run = some o → Sxs w sts ρ c o
theorem stepSs (I : Ss w ic er n) : ∀ ρ sts c o, (iSs (n + 1) ic er ρ sts c).run = some o → Sxs w sts ρ c o := by
  intro ρ sts c o h
  cases sts with
  | nil => cases h; exact sxs_nil
  | cons st sts =>
    refine sxs_frz (N := ic.N) (xs := escS n st) ?_
    obtain ⟨o', e, h⟩ := dbind_some (show ((forceR (frz ic.N (escS n st) ρ) fun ρ => iS n ic er ρ st c).bind _).run = _ from h)
    rw [forceR_eq] at e
    have a := I.S _ _ _ _ e
    cases o' with
    | nx ρ1 c1 => exact sxs_cons a (I.Ss _ _ _ _ h)
    | ret d c1 => cases h; exact sxs_stop a rfl
    | brk ρ1 c1 => cases h; exact sxs_stop a rfl
    | ct ρ1 c1 => cases h; exact sxs_stop a rfl
    | exn k d c1 => cases h; exact sxs_stop a rfl
theorem stepFor (W : Sw w ic er) (IH : ∀ (w : Wh) (er : Str → Bool), Sw w ic er → Ss w ic er n) {tg it : Expr} {body els : List Stmt} {pos : Pos} (h : (iS (n + 1) ic er ρ (.For tg it body els pos) c).run = some o) : Sx w (.For tg it body els pos) ρ c o := by
  have Wn := W.nox
  have I := IH _ _ Wn
  have In := sd_of n _ _ _ Wn.S
  cases els with
  | cons _ _ => cases h
  | nil =>
    replace h : (match tgI ic n tg with
        | some t => match enumOf it with
          | some a => if (isTup tg && noStar a && glOk ic.sc "enumerate" && ic.free "enumerate") = true then bo (iE n ic ρ a c) fun d c => match tupsD d with
            | some ds => .loop (forI (fun ρ c => (iSs n ic (fun _ => false) ρ body c).run) t.bind (enumD 0 ds) ρ c) .leaf
            | none => .fail else .fail
          | none => match downOf it with
          | some (a, b) => if (glOk ic.sc "range" && ic.free "range") = true then bo (iE n ic ρ a c) fun d c => bo (iE n ic ρ b c) fun e c => bo (mt (rngDT d e) c) fun ds c => .loop (forI (fun ρ c => (iSs n ic (fun _ => false) ρ body c).run) t.bind ds ρ c) .leaf else .fail
          | none => bo (iR n ic ρ it c) fun ds c => .loop (forI (fun ρ c => (iSs n ic (fun _ => false) ρ body c).run) t.bind ds ρ c) .leaf
        | none => .fail : DT Out).run = some o := h
    split at h
    · rename_i t ht
      have pg := (tgI_ok Wn.S ht).1
      have hB : ∀ d ρ ρ', t.bind d ρ = some ρ' → BindD w.F (t.g w.X.nox.K) d ρ ρ' := fun d ρ ρ' z => by
        rw [show w.X.nox.K = w.F.K from W.S.K]
        exact Tg.bindD_ok z
      split at h
      · rename_i a ha
        obtain ⟨p, pos', rfl⟩ := enumOf_ok ha
        split at h
        · rename_i hb
          obtain ⟨b1, b2, b3, b4⟩ := and4 hb
          obtain ⟨d, c1, h1, h⟩ := bo_some h
          split at h
          · rename_i ds hd
            cases tupsD_ok hd
            have f := forI_ok (w := ⟨w.X.nox, w.F, fun _ _ _ _ => False, w.C⟩) hB (fun ρ c o z => I.Ss ρ body c o z) (loop_some h)
            cases tg with
            | Tuple elts kk tpos => exact sx_nox (sx_for_enumT f.1 pg (Wn.S.gl b3).1 (Wn.S.free _ b4) (In.E _ _ _ _ _ h1) W.S.calm PassesOwn.never (star_of b2) (fun _ => rfl)) f.2
            | _ => cases b1
          · cases h
        · cases h
      · split at h
        · rename_i a b hdn
          obtain ⟨p, e3, pos', rfl, hr, hs1, hs2⟩ := downOf_ok hdn
          split at h
          · rename_i hb
            obtain ⟨b1, b2⟩ := Bool.and_eq_true_iff.mp hb
            obtain ⟨d, c1, h1, h⟩ := bo_some h
            obtain ⟨e, c2, h2, h⟩ := bo_some h
            obtain ⟨ds, c3, h3, h⟩ := bo_some h
            obtain ⟨hh, rfl⟩ := mt_some h3
            unfold rngDT at hh
            split at hh
            · obtain ⟨hb2, hh⟩ := req_some hh
              cases hh
              obtain ⟨z1, z2⟩ := Bool.and_eq_true_iff.mp hb2
              obtain ⟨kk, p1, p2, he3⟩ := isRev_ok hr
              cases he3
              have f := forI_ok (w := ⟨w.X.nox, w.F, fun _ _ _ _ => False, w.C⟩) hB (fun ρ c o z => I.Ss ρ body c o z) (loop_some h)
              exact sx_nox (sx_for_down (fun c => ev_neg ev_int) f.1 pg (Wn.S.gl b1).1 (Wn.S.free _ b2) (In.E _ _ _ _ _ h1) (In.E _ _ _ _ _ h2) ⟨(bnd_ok z1).1, (bnd_ok z1).2, (bnd_ok z2).1, (bnd_ok z2).2⟩ W.S.calm PassesOwn.never (star_of hs1) (star_of hs2) rfl (fun _ => rfl)) f.2
            · cases hh
          · cases h
        obtain ⟨ds, c1, h1, h⟩ := bo_some h
        have f := forI_ok (w := ⟨w.X.nox, w.F, fun _ _ _ _ => False, w.C⟩) hB (fun ρ c o z => I.Ss ρ body c o z) (loop_some h)
        exact walk_for W.S.calm (In.R _ _ _ _ _ h1) f.1 pg f.2
    · cases h
theorem swP {env : PySem.Env} {x y : Str} {px py pt pt2 : Pos} {kt k2 : Nat} {a b : Expr} (hk : env.scope.kind = .function) (hx : env.scope.names.lookup x = some .local) (hy : env.scope.names.lookup y = some .local) (hl : (px.line == py.line) = true) (hn : x ≠ y) (ha : noStar a = true) (hb : noStar b = true)
    (hf : [a, b].all (foldedForSure 8) = false) (hc : [a, b].all (constantsAlone 8) = false) : swappedStores [.Tuple [.Name x px, .Name y py] kt pt] (.Tuple [a, b] k2 pt2) env = pure (some [x, y]) := by
  have bk : env.blockKind = .function := by
    unfold Env.blockKind
    rw [hk]
    rfl
  have kx : env.kindOf x = some .local := hx
  have ky : env.kindOf y = some .local := hy
  have hl' : (py.line == px.line) = true := by
    rw [beq_iff_eq] at hl ⊢
    exact hl.symm
  have le : px.line = py.line := by simpa using hl
  have e1 : (x == y) = false := by simpa using hn
  have e2 : (y == x) = false := by simpa using Ne.symm hn
  have hc' : (constantsAlone 8 a && constantsAlone 8 b) = false := by simpa using hc
  have hf' : (foldedForSure 8 a && foldedForSure 8 b) = false := by simpa using hf
  unfold swappedStores
  simp [bk, kx, ky, le, List.eraseDups_cons, e1, e2, Expr.pos]
  rw [if_neg, if_neg (fun z => by rw [z.1, z.2] at hf'; cases hf'), if_neg (fun z => by rw [z.1, z.2] at hc'; cases hc')]
  intro z
  rcases z with z | z
  · cases a with
    | Starred => cases ha
    | _ => cases z
  · cases b with
    | Starred => cases hb
    | _ => cases z
theorem parOk_ok {tg : Expr} {x y : Str} {a b : Expr} (h : parOk ic tg e = some (x, y, a, b)) : ∃ px py kt pt k2 pt2, tg = .Tuple [.Name x px, .Name y py] kt pt ∧ e = .Tuple [a, b] k2 pt2 ∧ ic.sc.kind = .function ∧ ic.sc.names.lookup x = some .local ∧ ic.sc.names.lookup y = some .local ∧ (px.line == py.line) = true ∧ x ≠ y ∧ noStar a = true ∧ noStar b = true ∧ [a, b].all (foldedForSure 8) = false ∧ [a, b].all (constantsAlone 8) = false := by
  unfold parOk at h
  split at h
  · split at h
    · split at h
      · split at h
        · split at h
          · rename_i hb
            cases h
            unfold parB at hb
            simp only [Bool.and_eq_true, Bool.not_eq_true', decide_eq_false_iff_not] at hb
            obtain ⟨⟨⟨⟨⟨⟨⟨⟨h1, h2⟩, h3⟩, h4⟩, h5⟩, h6⟩, h7⟩, h8⟩, h9⟩ := hb
            refine ⟨_, _, _, _, _, _, rfl, rfl, ?_, ?_, ?_, h4, h5, h6, h7, h8, h9⟩
            · split at h1
              · assumption
              · cases h1
            · split at h2
              · assumption
              · cases h2
            · split at h3
              · assumption
              · cases h3
          · cases h
        · cases h
      · cases h
    · cases h
  · cases h
theorem jarT_ok {tg : Expr} {x : Str} {m : Nat} (h : jarT tg = some (x, m)) : (m = 0 ∨ m = 1) ∧ ∃ p1 k p2 p3, tg = .Subscript (.Name x p1) (.Constant (.int (m : Int)) k p2) p3 := by
  unfold jarT at h
  split at h
  · split at h
    · rename_i e
      cases h
      subst e
      exact ⟨.inl rfl, _, _, _, _, rfl⟩
    · split at h
      · rename_i e
        cases h
        subst e
        exact ⟨.inr rfl, _, _, _, _, rfl⟩
      · cases h
  · cases h
theorem stepJar (S : Sn w.X w.F w.C ic) {tg : Expr} {x : Str} {m : Nat} {pos : Pos} (hj : jarT tg = some (x, m)) (h : (if (noDisp e && noComp e) = true then bo (iE n ic ρ e c) fun d c => jarS ic ρ x m d c else .fail : DT Out).run = some o) : Sx w (.Assign [tg] e pos) ρ c o := by
  have I := sd_of n _ _ _ S
  obtain ⟨hm, p1, k1, p2, p3, rfl⟩ := jarT_ok hj
  split at h
  · rename_i hb
    obtain ⟨b1, b2⟩ := Bool.and_eq_true_iff.mp hb
    obtain ⟨d, c1, h1, h⟩ := bo_some h
    unfold jarS at h
    split at h
    · rename_i k
      split at h
      · rename_i hn
        split at h
        · rename_i a b
          cases h
          exact sx_jar (a := a) (b := b) hm (I.E _ _ _ _ _ h1) (nameD_ok S hn) ev_int rfl (fun _ => rfl) (swS b2) (swD b1) rfl
        · cases h
      · cases h
    · cases h
  · cases h
theorem swP3 {env : PySem.Env} {x y z : Str} {px py pz pt pt2 : Pos} {kt k2 : Nat} {a b c : Expr} (hk : env.scope.kind = .function) (hx : env.scope.names.lookup x = some .local) (hy : env.scope.names.lookup y = some .local) (hz : env.scope.names.lookup z = some .local) (ly : px.line = py.line) (lz : px.line = pz.line) (n1 : x ≠ y) (n2 : x ≠ z) (n3 : y ≠ z) (ha : noStar a = true) (hb : noStar b = true) (hd : noStar c = true)
    (hf : [a, b, c].all (foldedForSure 8) = false) (hc : [a, b, c].all (constantsAlone 8) = false) : swappedStores [.Tuple [.Name x px, .Name y py, .Name z pz] kt pt] (.Tuple [a, b, c] k2 pt2) env = pure (some [x, y, z]) := by
  have bk : env.blockKind = .function := by
    unfold Env.blockKind
    rw [hk]
    rfl
  have kx : env.kindOf x = some .local := hx
  have ky : env.kindOf y = some .local := hy
  have kz : env.kindOf z = some .local := hz
  have e1 : (x == y) = false := by simpa using n1
  have e2 : (y == x) = false := by simpa using Ne.symm n1
  have e3 : (x == z) = false := by simpa using n2
  have e4 : (z == x) = false := by simpa using Ne.symm n2
  have e5 : (y == z) = false := by simpa using n3
  have e6 : (z == y) = false := by simpa using Ne.symm n3
  have hc' : (constantsAlone 8 a && (constantsAlone 8 b && constantsAlone 8 c)) = false := by simpa using hc
  have hf' : (foldedForSure 8 a && (foldedForSure 8 b && foldedForSure 8 c)) = false := by simpa using hf
  have sa : (match a with | .Starred .. => true | _ => false) = false := by cases a <;> first | rfl | cases ha
  have sb : (match b with | .Starred .. => true | _ => false) = false := by cases b <;> first | rfl | cases hb
  have sc : (match c with | .Starred .. => true | _ => false) = false := by cases c <;> first | rfl | cases hd
  unfold swappedStores
  simp [bk, kx, ky, kz, ← ly, ← lz, List.eraseDups_cons, e1, e2, e3, e4, e5, e6, Expr.pos]
  rw [if_neg, if_neg (fun z => by rw [z.1, z.2.1, z.2.2] at hf'; cases hf'), if_neg (fun z => by rw [z.1, z.2.1, z.2.2] at hc'; cases hc')]
  intro z
  rcases z with z | z | z
  · cases a with
    | Starred => cases ha
    | _ => cases z
  · cases b with
    | Starred => cases hb
    | _ => cases z
  · cases c with
    | Starred => cases hd
    | _ => cases z
theorem par3Ok_ok {tg : Expr} {x y z : Str} {a b c3 : Expr} (h : par3Ok ic tg e = some (x, y, z, a, b, c3)) : ∃ px py pz kt pt k2 pt2, tg = .Tuple [.Name x px, .Name y py, .Name z pz] kt pt ∧ e = .Tuple [a, b, c3] k2 pt2 ∧ ic.sc.kind = .function ∧ ic.sc.names.lookup x = some .local ∧ ic.sc.names.lookup y = some .local ∧ ic.sc.names.lookup z = some .local ∧ px.line = py.line ∧ px.line = pz.line ∧ x ≠ y ∧ x ≠ z ∧ y ≠ z ∧ noStar a = true ∧ noStar b = true ∧ noStar c3 = true ∧ [a, b, c3].all (foldedForSure 8) = false ∧ [a, b, c3].all (constantsAlone 8) = false := by
  unfold par3Ok at h
  split at h
  · split at h
    · split at h
      · split at h
        · split at h
          · rename_i hb
            cases h
            unfold parB3 at hb
            simp only [Bool.and_eq_true, Bool.not_eq_true', decide_eq_false_iff_not, decide_eq_true_eq] at hb
            obtain ⟨⟨⟨⟨⟨⟨⟨⟨⟨⟨⟨⟨⟨h1, h2⟩, h3⟩, h4⟩, h5⟩, h6⟩, h7⟩, h8⟩, h9⟩, h10⟩, h11⟩, h12⟩, h13⟩, h14⟩ := hb
            refine ⟨_, _, _, _, _, _, _, rfl, rfl, ?_, ?_, ?_, ?_, h5, h6, h7, h8, h9, h10, h11, h12, h13, h14⟩
            · split at h1
              · assumption
              · cases h1
            · split at h2
              · assumption
              · cases h2
            · split at h3
              · assumption
              · cases h3
            · split at h4
              · assumption
              · cases h4
          · cases h
        · cases h
      · cases h
    · cases h
  · cases h
theorem step3 (S : Sn w.X w.F w.C ic) {tg : Expr} {x y z : Str} {ea eb ec : Expr} {pos : Pos} (hp : par3Ok ic tg e = some (x, y, z, ea, eb, ec)) (h : (i3 n ic ρ x y z ea eb ec c).run = some o) : Sx w (.Assign [tg] e pos) ρ c o := by
  have I := sd_of n _ _ _ S
  obtain ⟨px, py, pz, kt, pt, k2, pt2, e1, e2, p1, p2, p3, p4, p5, p6, p7, p8, p9, p10, p11, p12, p13, p14⟩ := par3Ok_ok hp
  unfold i3 at h
  split at h
  · rename_i i hi
    split at h
    · rename_i j hj
      split at h
      · rename_i l hl
        split at h
        · rename_i hb
          simp only [Bool.and_eq_true, decide_eq_true_eq] at hb
          obtain ⟨⟨⟨⟨⟨b1, b2⟩, b3⟩, b4⟩, b5⟩, b6⟩ := hb
          obtain ⟨a1, a2, a3⟩ := asgOk_ok S b1
          obtain ⟨a4, a5, a6⟩ := asgOk_ok S b2
          obtain ⟨a7, a8, a9⟩ := asgOk_ok S b3
          obtain ⟨d, c1, h1, h⟩ := bo_some h
          obtain ⟨d2, c2, h2, h⟩ := bo_some h
          obtain ⟨d3, c3, h3, h⟩ := bo_some h
          cases h
          rw [e1, e2]
          refine sx_par3 i j l (I.E _ _ _ _ _ h1) (I.E _ _ _ _ _ h2) (I.E _ _ _ _ _ h3) S.nd a1 a4 a7 (fun q => ?_) (fun q => ?_) (fun q => ?_) (by rw [S.sc]; exact p2) (by rw [S.sc]; exact p3) (by rw [S.sc]; exact p4) b4 b5 b6
            (swP3 (by rw [S.sc]; exact p1) (by rw [S.sc]; exact p2) (by rw [S.sc]; exact p3) (by rw [S.sc]; exact p4) p5 p6 p7 p8 p9 p10 p11 p12 p13 p14) S.calm (star_of p10) (star_of p11) (star_of p12)
          · subst q
            rw [a1] at a4
            exact p7 (Option.some.inj a4)
          · subst q
            rw [a1] at a7
            exact p8 (Option.some.inj a7)
          · subst q
            rw [a4] at a7
            exact p9 (Option.some.inj a7)
        · cases h
      · cases h
    · cases h
  · cases h
theorem stepAsT (S : Sn w.X w.F w.C ic) {tg : Expr} {pos : Pos} (h : (match parOk ic tg e with
          | some (x, y, a, b) => match ixOf x ic.N 0 with
            | some i => match ixOf y ic.N 0 with
              | some j => if (asgOk ic i x && asgOk ic j y && decide (i < ρ.length) && decide (j < ρ.length)) = true then (match newOf n ic ρ a c with
                | some r => bo r fun ds c => bo (iE n ic ρ b c) fun e c => .leaf (Out.nx ((ρ.set i (some (.ow ds))).set j (some (.fr e))) c)
                | none => bo (iE n ic ρ a c) fun d c => bo (iE n ic ρ b c) fun e c => .leaf (Out.nx ((ρ.set i (some (.fr d))).set j (some (.fr e))) c)) else .fail
              | none => .fail
            | none => .fail
          | none => match par3Ok ic tg e with
          | some (x, y, z, ea, eb, ec) => i3 n ic ρ x y z ea eb ec c
          | none => match jarT tg with
          | some (x, m) => if (noDisp e && noComp e) = true then bo (iE n ic ρ e c) fun d c => jarS ic ρ x m d c else .fail
          | none => if (noDisp e && noComp e && isTup tg) = true then (match tgI ic n tg with
            | some t => bo (iE n ic ρ e c) fun d c => match t.bind d ρ with
              | some ρ1 => .leaf (.nx ρ1 c)
              | none => .fail
            | none => .fail) else .fail : DT Out).run = some o) : Sx w (.Assign [tg] e pos) ρ c o := by
  have I := sd_of n _ _ _ S
  cases hp : parOk ic tg e with
  | some q =>
    rw [hp] at h
    obtain ⟨x, y, a, b⟩ := q
    obtain ⟨px, py, kt, pt, k2, pt2, e1, e2, p1, p2, p3, p4, p5, p6, p7, p8, p9⟩ := parOk_ok hp
    clear hp
    replace h : (match ixOf x ic.N 0 with
            | some i => match ixOf y ic.N 0 with
              | some j => if (asgOk ic i x && asgOk ic j y && decide (i < ρ.length) && decide (j < ρ.length)) = true then (match newOf n ic ρ a c with
                | some r => bo r fun ds c => bo (iE n ic ρ b c) fun e c => .leaf (Out.nx ((ρ.set i (some (.ow ds))).set j (some (.fr e))) c)
                | none => bo (iE n ic ρ a c) fun d c => bo (iE n ic ρ b c) fun e c => .leaf (Out.nx ((ρ.set i (some (.fr d))).set j (some (.fr e))) c)) else .fail
              | none => .fail
            | none => .fail : DT Out).run = some o := h
    split at h
    · rename_i i hi
      split at h
      · rename_i j hj
        split at h
        · rename_i hb
          obtain ⟨b1, b2, b3, b4⟩ := and4 hb
          obtain ⟨a1, a2, a3⟩ := asgOk_ok S b1
          obtain ⟨a4, a5, a6⟩ := asgOk_ok S b2
          rw [e1, e2]
          split at h
          · rename_i r hr
            obtain ⟨ds, c1, h1, h⟩ := bo_some h
            obtain ⟨d2, c2, h2, h⟩ := bo_some h
            cases h
            refine sx_parN i j (newOf_ok S hr h1) (I.E _ _ _ _ _ h2) S.nd a1 a4 (fun z => ?_) (by rw [S.sc]; exact p2) (by rw [S.sc]; exact p3) (of_decide_eq_true b3) (of_decide_eq_true b4) (swP (by rw [S.sc]; exact p1) (by rw [S.sc]; exact p2) (by rw [S.sc]; exact p3) p4 p5 p6 p7 p8 p9) S.calm (star_of p6) (star_of p7) rfl
            subst z
            rw [a1] at a4
            exact p5 (Option.some.inj a4)
          obtain ⟨d, c1, h1, h⟩ := bo_some h
          obtain ⟨d2, c2, h2, h⟩ := bo_some h
          cases h
          refine sx_par i j (I.E _ _ _ _ _ h1) (I.E _ _ _ _ _ h2) S.nd a1 a4 (fun z => ?_) (by rw [S.sc]; exact p2) (by rw [S.sc]; exact p3) (of_decide_eq_true b3) (of_decide_eq_true b4) (swP (by rw [S.sc]; exact p1) (by rw [S.sc]; exact p2) (by rw [S.sc]; exact p3) p4 p5 p6 p7 p8 p9) S.calm (star_of p6) (star_of p7) rfl
          subst z
          rw [a1] at a4
          exact p5 (Option.some.inj a4)
        · cases h
      · cases h
    · cases h
  | none =>
    rw [hp] at h
    replace h : (match par3Ok ic tg e with
          | some (x, y, z, ea, eb, ec) => i3 n ic ρ x y z ea eb ec c
          | none => match jarT tg with
          | some (x, m) => if (noDisp e && noComp e) = true then bo (iE n ic ρ e c) fun d c => jarS ic ρ x m d c else .fail
          | none => if (noDisp e && noComp e && isTup tg) = true then (match tgI ic n tg with
            | some t => bo (iE n ic ρ e c) fun d c => match t.bind d ρ with
              | some ρ1 => .leaf (Out.nx ρ1 c)
              | none => .fail
            | none => .fail) else .fail : DT Out).run = some o := h
    cases hp3 : par3Ok ic tg e with
    | some q =>
      rw [hp3] at h
      obtain ⟨x, y, z, ea, eb, ec⟩ := q
      exact step3 S hp3 h
    | none =>
    rw [hp3] at h
    replace h : (match jarT tg with
          | some (x, m) => if (noDisp e && noComp e) = true then bo (iE n ic ρ e c) fun d c => jarS ic ρ x m d c else .fail
          | none => if (noDisp e && noComp e && isTup tg) = true then (match tgI ic n tg with
            | some t => bo (iE n ic ρ e c) fun d c => match t.bind d ρ with
              | some ρ1 => .leaf (Out.nx ρ1 c)
              | none => .fail
            | none => .fail) else .fail : DT Out).run = some o := h
    split at h
    · rename_i x m hj
      exact stepJar S hj h
    split at h
    · rename_i hb
      obtain ⟨b1, b2, b3⟩ := and3 hb
      split at h
      · rename_i t ht
        obtain ⟨d, c1, h1, h⟩ := bo_some h
        split at h
        · rename_i ρ1 h2
          cases h
          have pg := (tgI_ok S ht).1
          have hB : BindD w.F (t.g w.X.K) d ρ ρ1 := by
            rw [S.K]
            exact Tg.bindD_ok h2
          cases tg with
          | Tuple ts k p => exact sx_asg pg (I.E _ _ _ _ _ h1) hB (swS b2) (swD b1) rfl
          | _ => cases b3
        · cases h
      · cases h
    · cases h
theorem swp_true {env : PySem.Env} {elt : Expr} {gs : List Comprehension} {scope : Scope} {p px : Pos} {x : Str} {l : Nat} (hs : env.scope = ic.sc) (h : swpB ic x px scope p = true) : swapsWith (.ListComp elt gs scope p) (some (.Name x px)) l env = pure true ∧ env.scope.names.lookup x = some .local := by
  unfold swpB at h
  obtain ⟨h1, h2, h3, h4⟩ := and4 h
  have k : env.scope.kind = .function := by
    rw [hs]
    split at h1
    · assumption
    · cases h1
  have m : env.scope.names.lookup x = some .local := by
    rw [hs]
    split at h2
    · assumption
    · cases h2
  have bk : env.blockKind = .function := by
    unfold Env.blockKind
    rw [k]
    rfl
  have kx : env.kindOf x = some .local := m
  refine ⟨?_, m⟩
  show (pure (env.blockKind == .function && env.kindOf x == some .local && px.line == p.line && !(scope.names.any fun (n, k) => n == x && (k == .local || k == .cell))) : Sem Bool) = pure true
  rw [bk, kx, h3, h4]
  rfl
theorem swp_false {env : PySem.Env} {elt : Expr} {gs : List Comprehension} {scope : Scope} {p px : Pos} {x : Str} {l : Nat} (hs : env.scope = ic.sc) (h : notSwp ic x px scope p = true) : swapsWith (.ListComp elt gs scope p) (some (.Name x px)) l env = pure false := by
  unfold notSwp at h
  obtain ⟨h1, h2⟩ := Bool.and_eq_true_iff.mp h
  have k : env.scope.kind = .function := by
    rw [hs]
    split at h1
    · assumption
    · cases h1
  have bk : env.blockKind = .function := by
    unfold Env.blockKind
    rw [k]
    rfl
  have h3 := Bool.not_eq_true' _ ▸ h2
  show (pure (env.blockKind == .function && env.kindOf x == some .local && px.line == p.line && !(scope.names.any fun (n, k) => n == x && (k == .local || k == .cell))) : Sem Bool) = pure false
  have e : (env.kindOf x == some .local) = (match ic.sc.names.lookup x with | some .local => true | _ => false) := by
    show (env.scope.names.lookup x == some .local) = _
    rw [hs]
    cases ic.sc.names.lookup x with
    | none => rfl
    | some k => cases k <;> rfl
  rw [bk, e]
  congr 1
theorem sx_setE {x : Str} {px pos : Pos} {i : Nat} (S : Sn w.X w.F w.C ic) (b1 : asgOk ic i x = true) (hl : i < ρ.length) (hc : noComp e = true) (h : ((iX n ic ρ e c).bind (eoSet ρ i)).run = some o) : Sx w (.Assign [.Name x px] e pos) ρ c o := by
  obtain ⟨a1, a2, a3⟩ := asgOk_ok S b1
  obtain ⟨v, h1, h⟩ := dbind_some h
  cases v with
  | v d c1 =>
    cases h
    exact sx_set i (iX_v S h1) S.nd a1 a2 hl a3 (swS hc) swNm rfl
  | x k d c1 =>
    cases h
    exact sx_setX (iX_x S h1) S.nd a1 a2 a3 (swS hc) swNm
theorem lcOf_some {q : Expr × List Comprehension × Scope × Pos} (h : lcOf e = some q) : e = .ListComp q.1 q.2.1 q.2.2.1 q.2.2.2 := by
  unfold lcOf at h
  split at h
  · cases h; rfl
  · cases h
theorem stepAs (W : Sw w ic er) {tgs : List Expr} {pos : Pos} (h : (iS (n + 1) ic er ρ (.Assign tgs e pos) c).run = some o) : Sx w (.Assign tgs e pos) ρ c o := by
  have S := W.S
  have I := sd_of n _ _ _ S
  match tgs, h with
  | [], h => cases h
  | _ :: _ :: _, h => cases h
  | [tg], h =>
    cases tg with
    | Name x px =>
      replace h : (match ixOf x ic.N 0 with
          | some i => if (asgOk ic i x && decide (i < ρ.length)) = true then (match lcOf e with
            | some (elt, gs, scope, p) => if (swpB ic x px scope p || notSwp ic x px scope p) = true then bo (iG n ic ρ elt gs scope c) fun ds c => .leaf (Out.nx (ρ.set i (some (.ow ds))) c) else .fail
            | none => match newOf n ic ρ e c with
            | some r => if noComp e = true then bo r fun ds c => .leaf (.nx (ρ.set i (some (.ow ds))) c) else .fail
            | none => if noComp e = true then (iX n ic ρ e c).bind (eoSet ρ i) else .fail) else .fail
          | none => .fail : DT Out).run = some o := h
      split at h
      · rename_i i hi
        split at h
        · rename_i hb
          obtain ⟨b1, b2⟩ := Bool.and_eq_true_iff.mp hb
          obtain ⟨a1, a2, a3⟩ := asgOk_ok S b1
          have hl := of_decide_eq_true b2
          cases hlc : lcOf e with
          | some q =>
            rw [hlc] at h
            have ee := lcOf_some hlc
            clear hlc
            obtain ⟨elt, gs, scope, p⟩ := q
            replace h : (if (swpB ic x px scope p || notSwp ic x px scope p) = true then bo (iG n ic ρ elt gs scope c) fun ds c => .leaf (Out.nx (ρ.set i (some (.ow ds))) c) else .fail : DT Out).run = some o := h
            replace ee : e = .ListComp elt gs scope p := ee
            split at h
            · rename_i hsw
              obtain ⟨ds, c1, h1, h⟩ := bo_some h
              cases h
              have g := I.G _ _ _ _ _ _ _ h1
              rw [ee]
              rcases Bool.or_eq_true_iff.mp hsw with y | y
              · obtain ⟨y1, y2⟩ := swp_true (elt := elt) (gs := gs) (l := pos.line) S.sc y
                cases g with
                | mk hi' hr hl' ok hg hs => exact sx_setLc i hi' (fun _ => hr) hl' ok hg S.nd a1 y2 hl y1 S.calm hs
              · exact sx_setN i (g.n S) S.nd a1 a2 hl a3 (swp_false (l := pos.line) S.sc y) swNm rfl
            · cases h
          | none =>
            rw [hlc] at h
            replace h : (match newOf n ic ρ e c with
            | some r => if noComp e = true then bo r fun ds c => .leaf (Out.nx (ρ.set i (some (.ow ds))) c) else .fail
            | none => if noComp e = true then (iX n ic ρ e c).bind (eoSet ρ i) else .fail : DT Out).run = some o := h
            split at h
            · rename_i r hr
              split at h
              · rename_i hc
                obtain ⟨ds, c1, h1, h⟩ := bo_some h
                cases h
                exact sx_setN i (newOf_ok S hr h1) S.nd a1 a2 hl a3 (swS hc) swNm rfl
              · cases h
            · split at h
              · rename_i hc
                exact sx_setE S b1 hl hc h
              · cases h
        · cases h
      · cases h
    | _ => exact stepAsT S h
theorem stepAo (S : Sn w.X w.F w.C ic) {a : Ao} {x : Str} {v : Expr} {pos : Pos} (h : (aoI n ic ρ a x v c).run = some o) (ha : appOf e = some (a, x, v)) : Sx w (.Expr e pos) ρ c o := by
  unfold aoI at h
  have I := sd_of n _ _ _ S
  obtain ⟨px, ap, p, rfl, h1, h2⟩ := appOf_ok ha
  clear ha
  split at h
  · rename_i i hi
    split at h
    · rename_i hv
      obtain ⟨v1, v2, v3, v4⟩ := varOk_ok hv
      rw [← S.N] at v1
      rw [← S.sc] at v2
      split at h
      · rename_i ds hr
        have h4 : ∀ env : PySem.Env, (((backTo p (starEach [v] env)).all fun x => !x.1) && (backToKw p (keywordEach [] env)).all (fun x => x.1.isSome) && decide ([v].length + ([] : List Keyword).length + (if ([] : List Keyword).isEmpty = true then 0 else 1) < 30)) = true := fun env => by
          rw [star_of h2]
          rfl
        cases a with
        | app =>
          obtain ⟨d, c1, k1, h⟩ := bo_some (show (bo (iE n ic ρ v c) _).run = _ from h)
          obtain ⟨hz, h⟩ := req_some h
          replace hz := of_decide_eq_true hz
          · cases h
            exact sx_append i hr (I.E _ _ _ _ _ k1) hz v1 v2 v3 v4 rfl (h4 _) h1 (star_of h2) rfl
        | ext =>
          obtain ⟨d, c1, k1, h⟩ := bo_some (show (bo (iL n ic ρ v c) _).run = _ from h)
          split at h
          · obtain ⟨hz, h⟩ := req_some h
            replace hz := of_decide_eq_true hz
            · cases h
              exact sx_extend i hr (I.L _ _ _ _ _ k1) hz v1 v2 v3 v4 rfl (h4 _) h1 (star_of h2) rfl
          · cases h
      · cases h
    · cases h
  · cases h
theorem raiseOf_ok {e : Option Expr} {x : Str} {v : Expr} (h : raiseOf e = some (x, v)) : ∃ p p2, e = some (.Call (.Name x p) [v] [] p2) := by
  unfold raiseOf at h
  split at h
  · split at h
    · split at h
      · split at h
        · cases h; exact ⟨_, _, rfl⟩
        · cases h
      · cases h
    · cases h
  · cases h
theorem retC_ok {ss : List Stmt} {k : Const} (h : retC ss = some k) : ∃ j p1 p2, ss = [.Return (some (.Constant k j p1)) p2] := by
  unfold retC at h
  split at h
  · cases h; exact ⟨_, _, _, rfl⟩
  · cases h
theorem tryOf_ok {st : Stmt} {b : List Stmt} {x : Str} {k : Const} (h : tryOf st = some (b, x, k)) : ∃ np j p1 p2 p3 p4, st = .Try b [.ExceptHandler (some (.Name x np)) none [.Return (some (.Constant k j p1)) p2] p3] [] [] p4 := by
  unfold tryOf at h
  split at h
  · split at h
    · rename_i hr
      cases h
      obtain ⟨j, p1, p2, e⟩ := retC_ok hr
      subst e
      exact ⟨_, _, _, _, _, _, rfl⟩
    · cases h
  · cases h
theorem stepTry (W : Sw w ic er) (IH : ∀ (w : Wh) (er : Str → Bool), Sw w ic er → Ss w ic er n) {st : Stmt} {b : List Stmt} {x : Str} {k : Const} (ht : tryOf st = some (b, x, k)) (hx : (ic.cat x x && glOk ic.sc x) = true) (h : ((iSs n ic er ρ b c).bind (tryK ic x k)).run = some o) : Sx w st ρ c o := by
  obtain ⟨np, j, p1, p2, p3, p4, rfl⟩ := tryOf_ok ht
  obtain ⟨o1, h1, h⟩ := dbind_some h
  have B : ∀ (W' : WX) (pn : List (Addr × Obj)) (xe : Value → Shared → Prop), Sxs ⟨w.X.tr pn xe, w.F, W', w.C⟩ b ρ c o1 := fun W' pn xe => (IH _ _ (W.tr W' pn xe)).Ss _ _ _ _ h1
  have names : Names w.X x (.ref (w.C x)) := by
    obtain ⟨b1, b2⟩ := Bool.and_eq_true_iff.mp hx
    have gl := W.S.gl b2
    exact ⟨gl.1, gl.2, .inl (W.cat _ _ b1).2⟩
  cases o1 with
  | exn kk d c1 =>
    replace h : (if (ic.cat kk x && glOk ic.sc x) = true then (match constD k with
      | some d => .leaf (Out.ret d c1)
      | none => .fail) else .fail : DT Out).run = some o := h
    split at h
    · rename_i hb
      obtain ⟨b1, b2⟩ := Bool.and_eq_true_iff.mp hb
      split at h
      · rename_i d2 hd
        cases h
        obtain ⟨x1, x2⟩ := W.cat _ _ b1
        have gl := W.S.gl b2
        exact sx_try_ret ⟨gl.1, gl.2, .inl x2⟩ W.st W.fr B x1 fun m a oe pn => sxs_stop (sx_ret (constD_ok hd)) rfl
      · cases h
    · cases h
  | nx ρ1 c1 => cases h; exact sx_try_not names W.st W.fr B fun _ _ _ z => by cases z
  | ret d1 c1 => cases h; exact sx_try_not names W.st W.fr B fun _ _ _ z => by cases z
  | brk ρ1 c1 => cases h; exact sx_try_not names W.st W.fr B fun _ _ _ z => by cases z
  | ct ρ1 c1 => cases h; exact sx_try_not names W.st W.fr B fun _ _ _ z => by cases z
theorem stepS (W : Sw w ic er) (IH : ∀ (w : Wh) (er : Str → Bool), Sw w ic er → Ss w ic er n) : ∀ ρ st c o, (iS (n + 1) ic er ρ st c).run = some o → Sx w st ρ c o := by
  intro ρ st c o h
  have S := W.S
  have I := sd_of n _ _ _ S
  have Is := IH _ _ W
  cases st with
  | Expr e pos =>
    replace h : (exS n ic ρ e c).run = some o := h
    unfold exS at h
    split at h
    · rename_i a x v ha
      exact stepAo S h ha
    · split at h
      · rename_i hc
        obtain ⟨v, h1, h⟩ := dbind_some h
        cases v with
        | v d c1 =>
          cases h
          exact sx_expr (iX_v S h1) (swN hc _)
        | x k d c1 =>
          cases h
          exact sx_exprX (iX_x S h1) (swN hc _)
      · cases h
  | Return e pos =>
    cases e with
    | none => cases h; exact sx_retN
    | some e =>
      obtain ⟨v, h1, h⟩ := dbind_some (show ((iX n ic ρ e c).bind eoRet).run = _ from h)
      cases v with
      | v d c1 =>
        cases h
        exact sx_ret (iX_v S h1)
      | x k d c1 =>
        cases h
        exact sx_retX (iX_x S h1)
  | If t a b pos =>
    obtain ⟨v, c1, h1, h⟩ := bo_some (show (bo (iT n ic ρ t c) _).run = _ from h)
    cases v with
    | true => exact sx_if (I.T _ _ _ _ _ h1) (fun _ => Is.Ss _ _ _ _ h) (fun z => by cases z)
    | false => exact sx_if (I.T _ _ _ _ _ h1) (fun z => by cases z) (fun _ => Is.Ss _ _ _ _ h)
  | Pass pos => cases h; exact sx_pass
  | Break pos => cases h; exact sx_break
  | Continue pos => cases h; exact sx_cont
  | Assign tgs e pos => exact stepAs W h
  | For tg it body els pos => exact stepFor W IH h
  | Raise e f pos =>
    cases f with
    | some _ => cases h
    | none =>
      replace h : (match raiseOf e with
        | some (x, e) => if (er x && glOk ic.sc x && noStar e) = true then bo (iE n ic ρ e c) fun d c => .leaf (Out.exn x d c) else .fail
        | none => .fail : DT Out).run = some o := h
      split at h
      · rename_i x v hr
        obtain ⟨p, p2, rfl⟩ := raiseOf_ok hr
        split at h
        · rename_i hb
          obtain ⟨b1, b2, b3⟩ := and3 hb
          obtain ⟨d, c1, h1, h⟩ := bo_some h
          cases h
          obtain ⟨k, k1, k2, k3⟩ := W.er x b1
          exact sx_raise k1 k2 k3 (I.E _ _ _ _ _ h1) (S.gl b2).1 S.calm (S.gl b2).2 (star_of b3)
        · cases h
      · cases h
  | Try body hs els fin pos =>
    replace h : (match tryOf (.Try body hs els fin pos) with
      | some (body, x, k) => if (ic.cat x x && glOk ic.sc x) = true then (iSs n ic er ρ body c).bind (tryK ic x k) else .fail
      | none => .fail : DT Out).run = some o := h
    split at h
    · rename_i b2 x k ht
      split at h
      · rename_i hb
        exact stepTry W IH ht hb h
      · cases h
    · cases h
  | _ => cases h
theorem ss_of : ∀ (n : Nat) (w : Wh) (er : Str → Bool), Sw w ic er → Ss w ic er n
  | 0, _, _, _ => { S := fun _ _ _ _ h => (by cases h), Ss := fun _ _ _ _ h => (by cases h) }
  | n + 1, w, er, W => ⟨stepS W (ss_of n), stepSs (ss_of n w er W)⟩
end
end Fh
end
section
set_option Elab.async false
set_option linter.all false
set_option maxRecDepth 100000
set_option maxHeartbeats 2000000
/-! A program's defs, read. -/
namespace Fh
open PySem PySem.Spec PyProof.Rows L2
abbrev Fnl := List D → HO → Option (Res × HO)
abbrev Hfl := Res → List D → HO → Option (Res × HO)
structure DefI where
  name : Str
  N : List Str
  ps : List Str
  sc : Scope
  body : List Stmt
structure Lib where
  defs : List DefI
  free : Str → Bool
  gi : Str → Option Int
  er : Str → Bool
  cat : Str → Str → Bool
  lam : Str → Bool
def outR : Option Out → Option (Res × HO)
  | some (.nx _ c) => some (.ok .non, c)
  | some (.ret d c) => some (.ok d, c)
  | some (.exn k d c) => some (.ex k d, c)
  | _ => none
def findI (x : Str) : List DefI → Option DefI
  | [] => none
  | d :: l => if d.name = x then some d else findI x l
def parI (x : Str) (l : List DefI) : Option (List Str) := match findI x l with
  | some d => some d.ps
  | none => none
def icOf (P : Lib) (sh : Str → Option Fnl) (hf : Str → Option Hfl) (d : DefI) : IC :=
  ⟨d.N, d.sc, P.free, P.gi, sh, true, fun x => parI x P.defs, sh, fun x => if P.lam d.name = true then hf x else none, P.cat⟩
def fuelI : Nat := 200
/-- a def by its text, over known ones -/
def runDef (P : Lib) (sh : Str → Option Fnl) (hf : Str → Option Hfl) (d : DefI) (ds : List D) (c : HO) : Option (Res × HO) :=
  if ds.length = d.ps.length then outR (iSs fuelI (icOf P sh hf d) P.er (rho0 d.N ds) d.body c).run else none
/-- the facts of a program -/
structure LibOk (Pr : Program) (w : World) (K : PySem.W.Frag) (mg : Str → Option Value) (base : Heap) (T : List (Addr × Str)) (C : Str → Addr) (P : Lib) : Prop where
  defs : ∀ x d, findI x P.defs = some d → ∃ f fd qual params, mg x = some (.ref f) ∧ FunD K x qual params d.body d.sc [] [] f fd ∧ FnScope d.N d.ps d.sc ∧ PySem.W.keepIn K (.ref f) = true ∧ BindsX K fd d.ps ∧
    (P.lam d.name = true → ∃ c Pt, fd.code = .ref c ∧ LamX.TabB base mg c Pt ∧ (Pt, (envOfC qual d.sc 0 0 .none).qual ++ "<lambda>") ∈ T ∧ ∀ p ∈ T, p.1 = Pt → p.2 = (envOfC qual d.sc 0 0 .none).qual ++ "<lambda>")
  free : ∀ x, P.free x = true → mg x = none
  gi : ∀ x i, P.gi x = some i → ∃ t, mg x = some (.int i t)
  er : ∀ x, P.er x = true → ErrC Pr w K mg base C x
  cat : ∀ k x, P.cat k x = true → PySem.W.exmOne K (.ref (C k)) (.ref (C x)) = some true ∧ mg x = some (.ref (C x))
section
variable {Pr : Program} {w : World} {K : PySem.W.Frag} {mg : Str → Option Value} {base : Heap} {C : Str → Addr} {P : Lib} {T : List (Addr × Str)}
theorem outR_ok {z : Option Out} {r : Res} {c : HO} (h : outR z = some (r, c)) : ∃ o, z = some o ∧ Done o r c := by
  unfold outR at h
  split at h
  · cases h; exact ⟨_, rfl, .nx _ _⟩
  · cases h; exact ⟨_, rfl, .ret _ _⟩
  · cases h; exact ⟨_, rfl, .exn _ _ _⟩
  · cases h
theorem room_un {k : Nat} {A : Around} (hr : Room k A) : A.units + 64 < cLine := by have := hr.un; omega
/-- known functions, each at level k -/
def ShOk (Pr : Program) (w : World) (K : PySem.W.Frag) (mg : Str → Option Value) (base : Heap) (T : List (Addr × Str)) (C : Str → Addr) (P : Lib) (k : Nat) (sh : Str → Option Fnl) : Prop := ∀ x f, sh x = some f → ∃ (ps : List Str) (sem : Fn), Kn Pr w K mg base T C x ps k sem ∧ (∀ ds c r c', f ds c = some (r, c') → sem ds c r c') ∧ ∀ q, parI x P.defs = some q → ps = q
def HfOk (Pr : Program) (w : World) (K : PySem.W.Frag) (mg : Str → Option Value) (base : Heap) (T : List (Addr × Str)) (C : Str → Addr) (k : Nat) (hf : Str → Option Hfl) : Prop := ∀ x g, hf x = some g → ∀ n, k ≤ n → ∃ h, h ≤ 1 ∧ Hof Pr w K mg base T C x n h g
theorem fn_ok2 {x qual : Str} {params : Arguments} {body : List Stmt} {scope : Scope} {N ps : List Str} {f : Addr} {fd : FuncData} {k : Nat} {sem : Fn} (FD : FunD K x qual params body scope [] [] f fd) (S : FnScope N ps scope) (hl : ∀ ds c r c', sem ds c r c' → ds.length = ps.length)
    (hb : ∀ (A : Around) (outer : List PySem.Env) (s : Shared) (H : Hp) (E : XK), Room k (A.deeper (envOfC qual scope s.heap.objs.size f fd.code)) → ∀ (Sa : List Addr) (j : Addr) (ds : List D) (c : HO) (r : Res) (c' : HO), sem ds c r c' →
      ∃ o, Sxs ⟨cxOf (L2N.CX Pr w) Pr w K mg base N qual scope f fd.code A outer s H E, fxOf K T H Sa j, fun cls d _ H => E cls d H, C⟩ body (rho0 N ds) c o ∧ Done o r c') : FnOk Pr w K mg base (L2N.CX Pr w) (k + 1) f fd ps (spF K T C sem) := by
  obtain ⟨oc, od, dV, kV, doc, pm, an, cdv, ct, osl, rfl, lk, hcd, _, _⟩ := FD.ex
  refine fn_of lk hcd S (fun vs H Q E h => ?_) (fun A outer s H vs Q E hr h => ?_)
  · obtain ⟨Sa, j, c, ds, r, c', _, h2, h3, _⟩ := h
    rw [h2.length]
    exact hl _ _ _ _ h3
  · obtain ⟨Sa, j, c, ds, r, c', h1, h2, h3, h4⟩ := h
    obtain ⟨o, ho, hd⟩ := hb A outer s H E hr Sa j ds c r c' h3
    refine ⟨_, pss_w, ho ⟨rfl, L2N.takes_of rfl rfl rfl rfl⟩ (fun _ => none) (L2.start N vs) H ⟨[], h1, env0 h2, fun a o z => by cases z⟩ _ ?_⟩
    cases hd with
    | ret d c => exact fun v H' o' r' => h4 v H' o' r'
    | nx ρ c => exact fun σ H' ⟨L, o', _, _⟩ => h4 .non H' o'.drop .non
    | exn k d c => exact fun σ H' dd e => h4 dd H' e
theorem Kn.up {x : Str} {ps : List Str} {k m : Nat} {sem : Fn} (h : Kn Pr w K mg base T C x ps k sem) (hk : k ≤ m) : Kn Pr w K mg base T C x ps m sem := by
  obtain ⟨f, fd, h1, h2, h3, h4⟩ := h
  exact ⟨f, fd, h1, h2.mono hk, h3, h4⟩
theorem ShOk.up {k m : Nat} {sh : Str → Option Fnl} (h : ShOk Pr w K mg base T C P k sh) (hk : k ≤ m) : ShOk Pr w K mg base T C P m sh := fun x f z => by
  obtain ⟨ps, sem, a, b, c⟩ := h x f z
  exact ⟨ps, sem, a.up hk, b, c⟩
theorem HfOk.up {k m : Nat} {hf : Str → Option Hfl} (h : HfOk Pr w K mg base T C k hf) (hk : k ≤ m) : HfOk Pr w K mg base T C m hf := fun x g z n hn => h x g z n (Nat.le_trans hk hn)
theorem kn_of (L : LibOk Pr w K mg base T C P) {k : Nat} {sh : Str → Option Fnl} {hf : Str → Option Hfl} (hsh : ShOk Pr w K mg base T C P k sh) (hhf : HfOk Pr w K mg base T C k hf) {x : Str} {d : DefI} (hd : findI x P.defs = some d) :
    Kn Pr w K mg base T C x d.ps (k + 6) (fun ds c r c' => runDef P sh hf d ds c = some (r, c')) := by
  obtain ⟨fa, fd, qual, params, h1, h2, h3, h4, h5, h6⟩ := L.defs x d hd
  refine ⟨fa, fd, h1, ?_, h4, h5⟩
  refine fn_ok2 (k := k + 5) h2 h3 (fun ds c r c' z => ?_) (fun A outer s H E hr Sa j ds c r c' z => ?_)
  · unfold runDef at z
    split at z
    · assumption
    · cases z
  · unfold runDef at z
    split at z
    · obtain ⟨o, ho, hd'⟩ := outR_ok z
      refine ⟨o, (ss_of (ic := icOf P sh hf d) fuelI _ P.er ?_).Ss _ _ _ _ ho, hd'⟩
      refine ⟨?_, fun x hx => ⟨k + 5, L.er x hx, hr, by omega⟩, fun k x z => L.cat k x z, rfl, rfl⟩
      exact
        { N := rfl
          sc := rfl
          free := L.free
          gi := L.gi
          fn := fun x f hf => by
            obtain ⟨ps, sem, a, b, c⟩ := hsh x f hf
            exact ⟨ps, k, k + 5, sem, a, hr, by omega, b, c⟩
          hof := fun y g hg => by
            have hg' : (if P.lam d.name = true then hf y else none) = some g := hg
            split at hg'
            · rename_i hl
              obtain ⟨cc, Pt, t1, t2, t3, t4⟩ := h6 hl
              obtain ⟨h, hh, G⟩ := hhf y g hg' k (Nat.le_refl _)
              refine ⟨k, h, G, hr.mono (by omega), ⟨cc, Pt, t2, t1, t3, t4⟩, fun y f hy => ?_⟩
              obtain ⟨ps, sem, a, b, c⟩ := hsh y f hy
              exact ⟨ps, k, sem, a, Nat.le_refl _, b, c⟩
            · cases hg'
          un := room_un hr
          calm := rfl
          K := rfl
          nd := h3.nd
          cel := fun _ _ => rfl }
    · cases z
/-- one more def in the table -/
def addS (x : Str) (f : Fnl) (sh : Str → Option Fnl) : Str → Option Fnl := fun y => if y = x then some f else sh y
theorem sh_nil {k : Nat} : ShOk Pr w K mg base T C P k (fun _ => none) := fun x f h => by cases h
theorem hf_nil {k : Nat} : HfOk Pr w K mg base T C k (fun _ => none) := fun x f h => by cases h
theorem sh_add (L : LibOk Pr w K mg base T C P) {k : Nat} {sh : Str → Option Fnl} {hf : Str → Option Hfl} (hsh : ShOk Pr w K mg base T C P k sh) (hhf : HfOk Pr w K mg base T C k hf) {x : Str} {d : DefI} (hd : findI x P.defs = some d) : ShOk Pr w K mg base T C P (k + 6) (addS x (runDef P sh hf d) sh) := by
  intro y g h
  unfold addS at h
  split at h
  · rename_i e
    cases h
    subst e
    refine ⟨d.ps, _, kn_of L hsh hhf hd, fun _ _ _ _ z => z, fun q hq => ?_⟩
    unfold parI at hq
    rw [hd] at hq
    cases hq
    rfl
  · obtain ⟨ps, sem, a, b⟩ := hsh y g h
    exact ⟨ps, sem, a.up (by omega), b⟩
/-- the def's own function joins a table of the same level or above -/
theorem sh_join (L : LibOk Pr w K mg base T C P) {k m : Nat} {sh sh2 : Str → Option Fnl} {hf : Str → Option Hfl} (hsh : ShOk Pr w K mg base T C P k sh) (hhf : HfOk Pr w K mg base T C k hf) (hsh2 : ShOk Pr w K mg base T C P m sh2) (hm : k + 6 ≤ m) {x : Str} {d : DefI} (hd : findI x P.defs = some d) : ShOk Pr w K mg base T C P m (addS x (runDef P sh hf d) sh2) := by
  intro y g h
  unfold addS at h
  split at h
  · rename_i e
    cases h
    subst e
    refine ⟨d.ps, _, (kn_of L hsh hhf hd).up hm, fun _ _ _ _ z => z, fun q hq => ?_⟩
    unfold parI at hq
    rw [hd] at hq
    cases hq
    rfl
  · exact hsh2 y g h
end
end Fh
end
section
set_option Elab.async false
set_option linter.all false
set_option maxRecDepth 100000
/-! What a tree is to bring. -/
namespace Fh
open PySem PySem.Spec PyProof.Rows L2
noncomputable def DT.wp {α : Type} (t : DT α) (Q : α → Prop) : Prop :=
  DT.rec (motive := fun _ => (α → Prop) → Prop) (fun a Q => Q a) (fun _ => False) (fun b _ _ it jf Q => (b = true → it Q) ∧ (b = false → jf Q)) (fun b _ it Q => b = true ∧ it Q)
    (fun o _ k Q => ∃ r c, o = some (r, c) ∧ k r c Q) (fun o _ k Q => ∃ x, o = some x ∧ k x Q) (fun o _ k Q => ∃ ds c, o = some (ds, c) ∧ k ds c Q) t Q
theorem DT.wp_run {α : Type} {t : DT α} : ∀ {Q : α → Prop}, t.wp Q → ∃ a, t.run = some a ∧ Q a := by
  induction t with
  | leaf a => exact fun {Q} h => ⟨a, rfl, h⟩
  | fail => exact fun {Q} h => h.elim
  | node b t f iht ihf =>
    intro Q h
    cases b with
    | true => exact iht (h.1 rfl)
    | false => exact ihf (h.2 rfl)
  | req b t ih =>
    intro Q h
    obtain ⟨h1, h2⟩ := h
    subst h1
    exact ih h2
  | ask o k ih =>
    intro Q ⟨r, c, h1, h2⟩
    subst h1
    exact ih r c h2
  | loop o k ih =>
    intro Q ⟨x, h1, h2⟩
    subst h1
    exact ih x h2
  | lst o k ih =>
    intro Q ⟨x, c, h1, h2⟩
    subst h1
    exact ih x c h2
/-- a def brings r and leaves c', of which Q holds -/
def Brings (f : Fnl) (ds : List D) (c : HO) (Q : Res → HO → Prop) : Prop := ∃ r c', f ds c = some (r, c') ∧ Q r c'
def endQ (Q : Res → HO → Prop) : Out → Prop
  | .nx _ c => Q (.ok .non) c
  | .ret d c => Q (.ok d) c
  | .exn k d c => Q (.ex k d) c
  | _ => False
theorem brings_of {P : Lib} {sh : Str → Option Fnl} {hf : Str → Option Hfl} {d : DefI} {ds : List D} {c : HO} {Q : Res → HO → Prop} (hl : ds.length = d.ps.length) (h : (iSs fuelI (icOf P sh hf d) P.er (rho0 d.N ds) d.body c).wp (endQ Q)) : Brings (runDef P sh hf d) ds c Q := by
  obtain ⟨o, h1, h2⟩ := DT.wp_run h
  unfold Brings runDef
  rw [if_pos hl, h1]
  cases o with
  | nx ρ c => exact ⟨_, _, rfl, h2⟩
  | ret d c => exact ⟨_, _, rfl, h2⟩
  | exn k d c => exact ⟨_, _, rfl, h2⟩
  | brk ρ c => exact h2.elim
  | ct ρ c => exact h2.elim
theorem Brings.imp {f : Fnl} {ds : List D} {c : HO} {Q R : Res → HO → Prop} (h : Brings f ds c Q) (k : ∀ r c, Q r c → R r c) : Brings f ds c R := by
  obtain ⟨r, c', h1, h2⟩ := h
  exact ⟨r, c', h1, k _ _ h2⟩
/-- a loop by its invariant -/
theorem forI_inv {body : Rho → HO → Option Out} {B : D → Rho → Option Rho} {Q : Out → Prop} (I : List D → Rho → HO → Prop)
    (step : ∀ d ds ρ c, I (d :: ds) ρ c → ∃ ρ1, B d ρ = some ρ1 ∧ ∃ o, body ρ1 c = some o ∧ (match o with
      | .nx ρ2 c2 => I ds ρ2 c2
      | .ct ρ2 c2 => I ds ρ2 c2
      | .brk ρ2 c2 => Q (.nx ρ2 c2)
      | .ret r c2 => Q (.ret r c2)
      | .exn _ _ _ => False)) (fin : ∀ ρ c, I [] ρ c → Q (.nx ρ c)) : ∀ {ds : List D} {ρ : Rho} {c : HO}, I ds ρ c → ∃ o, forI body B ds ρ c = some o ∧ Q o
  | [], ρ, c, h => ⟨_, rfl, fin ρ c h⟩
  | d :: ds, ρ, c, h => by
    obtain ⟨ρ1, h1, o, h2, h3⟩ := step d ds ρ c h
    unfold forI
    rw [h1]
    dsimp only
    rw [h2]
    cases o with
    | nx ρ2 c2 => exact forI_inv I step fin h3
    | ct ρ2 c2 => exact forI_inv I step fin h3
    | brk ρ2 c2 => exact ⟨_, rfl, h3⟩
    | ret r c2 => exact ⟨_, rfl, h3⟩
    | exn k d c => exact h3.elim
/-- a block by its invariant: what is made, what is left -/
theorem lcI_inv {B : D → Rho → Option Rho} {T : Rho → HO → Option (Bool × HO)} {V : Rho → HO → Option (D × HO)} {ρ : Rho} {Q : List D → HO → Prop} (I : List D → List D → HO → Prop)
    (step : ∀ es d ds c, I es (d :: ds) c → ∃ ρ1, B d ρ = some ρ1 ∧ ∃ b c1, T ρ1 c = some (b, c1) ∧ (b = true → ∃ e c2, V ρ1 c1 = some (e, c2) ∧ I (es ++ [e]) ds c2) ∧ (b = false → I es ds c1)) (fin : ∀ es c, I es [] c → Q es c) :
    ∀ {ds es : List D} {c : HO}, I es ds c → ∃ ls c', lcI B T V ρ ds c = some (ls, c') ∧ Q (es ++ ls) c'
  | [], es, c, h => ⟨[], c, rfl, by rw [List.append_nil]; exact fin es c h⟩
  | d :: ds, es, c, h => by
    obtain ⟨ρ1, h1, b, c1, h2, h3, h4⟩ := step es d ds c h
    unfold lcI
    rw [h1]
    dsimp only
    rw [h2]
    cases b with
    | true =>
      obtain ⟨e, c2, h5, h6⟩ := h3 rfl
      obtain ⟨ls, c', h7, h8⟩ := lcI_inv I step fin h6
      refine ⟨e :: ls, c', ?_, by rw [List.append_assoc] at h8; exact h8⟩
      show ob (V ρ1 c1) _ = _
      rw [h5]
      show ob (lcI B T V ρ ds c2) _ = _
      rw [h7]
      rfl
    | false =>
      obtain ⟨ls, c', h7, h8⟩ := lcI_inv I step fin (h4 rfl)
      exact ⟨ls, c', h7, h8⟩
end Fh
end
section
set_option Elab.async false
set_option linter.all false
set_option maxRecDepth 100000
set_option maxHeartbeats 4000000
/-! What the head tells, for a program's defs as data. -/
namespace Fh
open PySem PySem.Spec PyProof.Rows L2
def BX (a : Arguments) (ps : List Str) : Prop := (∀ (x qual : Str) (body : List Stmt) (scope : Scope) (kV doc pm : Value) (an : Option Addr) (cdv ct : Value) (us : List Value), us.length = ps.length → bindArgs (PySem.W.fnOf x qual a body scope .none kV doc pm an cdv ct) ⟨us, []⟩ = pure (ps.zip us)) ∧
  ∀ (x qual : Str) (body : List Stmt) (scope : Scope) (kV doc pm : Value) (an : Option Addr) (cdv ct : Value) (y : Str) (u : Value), ps = [y] → bindArgs (PySem.W.fnOf x qual a body scope .none kV doc pm an cdv ct) ⟨[], [(y, u)]⟩ = pure [(y, u)]
def AllL {α : Type} (p : α → Prop) : List α → Prop
  | [] => True
  | d :: l => p d ∧ AllL p l
theorem AllL.mem {α : Type} {p : α → Prop} {x : α} : ∀ {l : List α}, AllL p l → x ∈ l → p x
  | [], _, h => nomatch h
  | d :: l, ⟨a, b⟩, h => by
    rcases List.mem_cons.mp h with e | e
    · rw [e]; exact a
    · exact b.mem e
def AllD (fn : List He.DefD) (d : DefI) : Prop := ∃ e : He.DefD, e ∈ fn ∧ e.at_ = (d.name, none) ∧ e.name = d.name ∧ e.qual = d.name ∧ e.body = d.body ∧ e.scope = d.sc ∧ e.dfl = [] ∧ e.kwd = [] ∧ BX e.params d.ps
theorem findI_mem {x : Str} {d : DefI} : ∀ {l : List DefI}, findI x l = some d → d ∈ l ∧ d.name = x
  | [], h => by cases h
  | e :: l, h => by
    unfold findI at h
    split at h
    · rename_i z
      cases h
      exact ⟨List.mem_cons_self, z⟩
    · obtain ⟨a, b⟩ := findI_mem h
      exact ⟨List.mem_cons_of_mem _ a, b⟩
/-- a def's scope, looked at -/
def fsB (N P : List Str) (sc : Scope) : Bool := (match sc.kind with
    | .function => true
    | _ => false) && (!sc.isCoroutine && (!sc.isGenerator && (decide N.Nodup && (decide (N.take P.length = P) && (P.all (fun x => match sc.names.lookup x with
    | some .local => true
    | some .cell => true
    | _ => false) && sc.names.all fun y => match y.2 with
    | .free => false
    | _ => true)))))
theorem fsB_ok {N P : List Str} {sc : Scope} (h : fsB N P sc = true) : FnScope N P sc := by
  unfold fsB at h
  obtain ⟨h1, h⟩ := Bool.and_eq_true_iff.mp h
  obtain ⟨h2, h⟩ := Bool.and_eq_true_iff.mp h
  obtain ⟨h3, h⟩ := Bool.and_eq_true_iff.mp h
  obtain ⟨h4, h⟩ := Bool.and_eq_true_iff.mp h
  obtain ⟨h5, h⟩ := Bool.and_eq_true_iff.mp h
  obtain ⟨h6, h7⟩ := Bool.and_eq_true_iff.mp h
  refine ⟨?_, by simpa using h2, by simpa using h3, of_decide_eq_true h4, of_decide_eq_true h5, fun x hx => ?_, fun y hy z => ?_⟩
  · split at h1
    · assumption
    · cases h1
  · have := List.all_eq_true.mp h6 x hx
    split at this
    · exact .inl (by assumption)
    · exact .inr (by assumption)
    · cases this
  · have := List.all_eq_true.mp h7 y hy
    rw [z] at this
    cases this
theorem oexBH_ok {K : PySem.W.Frag} {C : Addr} (h : oexBH K C = true) : OexC K C := by
  unfold oexBH at h
  obtain ⟨h1, h⟩ := Bool.and_eq_true_iff.mp h
  obtain ⟨h2, h⟩ := Bool.and_eq_true_iff.mp h
  obtain ⟨h3, h⟩ := Bool.and_eq_true_iff.mp h
  obtain ⟨h4, h5⟩ := Bool.and_eq_true_iff.mp h
  refine ⟨?_, of_decide_eq_true h2, of_decide_eq_true h3, of_decide_eq_true h4, h5⟩
  split at h1
  · rename_i dd cd sl ho
    split at h1
    · rename_i C' bm k0 k1 k2 k3 n k5 hm hs
      simp only [Bool.and_eq_true, beq_iff_eq, Bool.not_eq_true'] at h1
      obtain ⟨rfl, rfl, hdel, hdct, ht⟩ := h1
      obtain ⟨nm, bs, mro, ns, qn, hd, sn, sub, ab, col, del⟩ := cd
      dsimp only at hm hdel hdct
      subst hm hdel hdct
      have hsl : sl = #[k0, k1, k2, k3, some (.builtin "ValueError.__new__"), k5] := by
        obtain ⟨l⟩ := sl
        simp only at hs
        rw [hs]
      subst hsl
      exact ⟨nm, qn, ns, bs, bm, sn, sub, ab, col, dd, k0, k1, k2, k3, k5, ho, ht⟩
    · cases h1
  · cases h1
theorem excBH_ok {K : PySem.W.Frag} {D : Addr} (h : excBH K D = true) : ExcC K D ∧ XfC K D := by
  unfold excBH at h
  obtain ⟨h1, h⟩ := Bool.and_eq_true_iff.mp h
  obtain ⟨h2, h⟩ := Bool.and_eq_true_iff.mp h
  obtain ⟨h3, h⟩ := Bool.and_eq_true_iff.mp h
  obtain ⟨h4, h⟩ := Bool.and_eq_true_iff.mp h
  obtain ⟨h5, h⟩ := Bool.and_eq_true_iff.mp h
  obtain ⟨h6, h⟩ := Bool.and_eq_true_iff.mp h
  obtain ⟨h7, h8⟩ := Bool.and_eq_true_iff.mp h
  exact ⟨⟨of_decide_eq_true h1, of_decide_eq_true h2, of_decide_eq_true h3, h4, of_decide_eq_true h5, of_decide_eq_true h6, of_decide_eq_true h7, of_decide_eq_true h8⟩, ⟨of_decide_eq_true h1, of_decide_eq_true h2, of_decide_eq_true h3, h4⟩⟩
theorem cnBH_ok {K : PySem.W.Frag} {C : Addr} (he : ExcC K C) (h : cnBH K C = true) : PySem.W.findIn K (.ref C) "name" = some none ∧ CnC K C := by
  unfold cnBH at h
  obtain ⟨h1, h2⟩ := Bool.and_eq_true_iff.mp h
  exact ⟨of_decide_eq_true h1, cnB_ok he h2⟩
section
variable {Pr : Program} {w w' : World} {K : PySem.W.Frag} {mg : Str → Option Value} {base h : Heap}
theorem lookup_mem {α : Type} {x : Str} {v : α} : ∀ {l : List (Str × α)}, l.lookup x = some v → (x, v) ∈ l
  | [], h => by cases h
  | (y, u) :: r, h => by
    rw [List.lookup_cons] at h
    cases q : (x == y) with
    | true =>
      rw [q] at h
      cases h
      rw [eq_of_beq q]
      exact List.mem_cons_self
    | false =>
      rw [q] at h
      exact List.mem_cons_of_mem _ (lookup_mem h)
structure HeadS (lib : Lib) (clL erL frL : List Str) (giL : List (Str × Int)) (topN : Str) : Prop where
  free : ∀ x, lib.free x = true → x ∈ frL
  gi : ∀ x i, lib.gi x = some i → (x, i) ∈ giL
  er : ∀ x, lib.er x = true → x ∈ erL
  cat : ∀ k x, lib.cat k x = true → k ∈ erL ∧ x = topN
  top : topN ∈ clL
  sub : ∀ x ∈ erL, x ∈ clL
/-- the facts of a program, off the head -/
theorem lib_of {lib : Lib} {cl er fr hk ns : List Str} {gi : List (Str × Int)} {top : Str} {fn : List He.DefD} {tf : List He.Defn} {hI : He.DefD} {T : List (Addr × Str)} {Po : IniP} (HS : HeadS lib cl er fr gi top)
    (X : K.In base) (G : base.Ns mainGlobals mg) (c : He.SaysX (faAll (lib.defs.map DefI.name) cl fr gi) fn [] tf (exAll er top hk ns) w' h K)
    (hD : AllL (AllD fn) lib.defs) (hS : (lib.defs.all fun d => fsB d.N d.ps d.sc) = true)
    (hi : hI ∈ fn) (i1 : hI.at_ = (top, some ("__init__" : Str))) (i2 : hI.name = "__init__") (i3 : hI.qual = "Refused.__init__") (i4 : hI.body = iniBody Po) (i5 : hI.dfl = []) (i6 : hI.kwd = []) (i7 : hI.scope.names = [(("self" : Str), .local), (("what" : Str), .local)]) (i8 : fsB ["self", "what"] ["self", "what"] hI.scope = true) (i9 : BX hI.params ["self", "what"])
    (hL : ∀ d ∈ lib.defs, lib.lam d.name = true → (d.name, none) ∈ tf) (hT : ∀ p ∈ tf, LamX.TabB base mg (He.cT K p).1 (He.cT K p).2 ∧ ((He.cT K p).2, (envOfC p.1 default 0 0 .none).qual ++ "<lambda>") ∈ T ∧ ∀ q ∈ T, q.1 = (He.cT K p).2 → q.2 = (envOfC p.1 default 0 0 .none).qual ++ "<lambda>") : LibOk Pr w K mg base T (He.ga K) lib := by
  have cD := c.t.d
  have fact : ∀ f ∈ faAll (lib.defs.map DefI.name) cl fr gi, f.ok K = true := fun f hf => cD.facts hf
  have ex := c.more
  unfold exAll at ex
  obtain ⟨ex1, ex2⟩ := Bool.and_eq_true_iff.mp ex
  obtain ⟨ex1, exn⟩ := Bool.and_eq_true_iff.mp ex1
  obtain ⟨ex2, ex3⟩ := Bool.and_eq_true_iff.mp ex2
  have gD : ∀ d ∈ lib.defs, mg d.name = some (.ref (He.ga K d.name)) := fun d hd => He.glo_ok X G (fact (.glo d.name) (List.mem_append_left _ (List.mem_map.mpr ⟨d.name, List.mem_map.mpr ⟨d, hd, rfl⟩, rfl⟩)))
  have gE : ∀ x ∈ cl, mg x = some (.ref (He.ga K x)) := fun x hx => He.glo_ok X G (fact (.glo x) (List.mem_append_right _ (List.mem_append_left _ (List.mem_map.mpr ⟨x, hx, rfl⟩))))
  have cls : ∀ x ∈ er, clsBH K top x = true := fun x hx => List.all_eq_true.mp ex1 x hx
  refine ⟨fun x d hd => ?_, fun x hx => ?_, fun x i hx => ?_, fun x hx => ?_, fun k x hx => ?_⟩
  · obtain ⟨hm, rfl⟩ := findI_mem hd
    obtain ⟨e, he, e1, e2, e3, e4, e5, e6, e7, bx⟩ := hD.mem hm
    obtain ⟨fd, FD⟩ := cD.defs he
    have f1 : He.fAd K e.at_ = He.ga K d.name := by rw [e1]; rfl
    have d1 : e.dvs K = [] := by unfold He.DefD.dvs; rw [e6]; rfl
    have d2 : e.kws K = [] := by unfold He.DefD.kws; rw [e7]; rfl
    rw [f1, d1, d2, e2, e3, e4, e5] at FD
    obtain ⟨oc, od, dV, kV, doc, pm, an, cdv, ct, osl, hfd, lk, hcd, hDf, hKw⟩ := FD.ex
    have hdV : dV = .none := by
      rcases hDf with ⟨_, z⟩ | ⟨z, _⟩
      · exact z
      · exact absurd rfl z
    subst hdV
    refine ⟨_, fd, d.name, e.params, gD d hm, FD, fsB_ok (List.all_eq_true.mp hS d hm), FD.kp, ⟨FD.bindsN fun kV doc pm an cdv ct us hl => bx.1 _ _ _ _ kV doc pm an cdv ct us hl, fun y hy s u _ => ?_⟩, fun hl => ?_⟩
    · rw [hfd]
      exact .of_eq (bx.2 _ _ _ _ kV doc pm an cdv ct y u hy)
    · have ht := hL d hm hl
      obtain ⟨t1, t2, t3⟩ := hT _ ht
      obtain ⟨cc, hcc⟩ := He.codeIn_ref hcd
      have hco : (He.cT K (d.name, none)).1 = cc := by
        show He.codeOf K (d.name, none) = cc
        exact He.codeOf_eq (p := (d.name, none)) (fd := fd) (by show K.lookup (He.ga K d.name) = _; exact lk) (by rw [hfd]; exact hcc)
      refine ⟨cc, (He.cT K (d.name, none)).2, by rw [hfd]; exact hcc, by rw [← hco]; exact t1, t2, t3⟩
  · exact He.free_ok X G (fact (.free x) (List.mem_append_right _ (List.mem_append_right _ (List.mem_append_left _ (List.mem_map.mpr ⟨x, HS.free x hx, rfl⟩)))))
  · exact He.int_ok X G (fact (.int x i) (List.mem_append_right _ (List.mem_append_right _ (List.mem_append_right _ (List.mem_map.mpr ⟨(x, i), HS.gi x i hx, rfl⟩)))))
  · have hx' := HS.er x hx
    have q := cls x hx'
    unfold clsBH at q
    obtain ⟨q1, q⟩ := Bool.and_eq_true_iff.mp q
    obtain ⟨q2, q⟩ := Bool.and_eq_true_iff.mp q
    obtain ⟨q3, q4⟩ := Bool.and_eq_true_iff.mp q
    obtain ⟨fd, FD⟩ := cD.defs hi
    have f1 : He.fAd K hI.at_ = He.ma K (He.ga K top) "__init__" := by rw [i1]; rfl
    have d1 : hI.dvs K = [] := by unfold He.DefD.dvs; rw [i5]; rfl
    have d2 : hI.kws K = [] := by unfold He.DefD.kws; rw [i6]; rfl
    rw [f1, d1, d2, i2, i3, i4] at FD
    obtain ⟨n1, n2⟩ := Bool.and_eq_true_iff.mp (List.all_eq_true.mp exn x hx')
    obtain ⟨n3, n4⟩ := cnBH_ok (excBH_ok n1).1 n2
    refine ⟨gE x (HS.sub x hx'), oexBH_ok q1, of_decide_eq_true q2, n3, n4, _, fd, of_decide_eq_true q3, of_decide_eq_true ex3, ok_init FD (fsB_ok i8) i7, ?_⟩
    exact FD.bindsN fun kV doc pm an cdv ct us hl => i9.1 _ _ _ _ kV doc pm an cdv ct us hl
  · obtain ⟨hk, rfl⟩ := HS.cat k x hx
    have q := cls k hk
    unfold clsBH at q
    obtain ⟨q1, q⟩ := Bool.and_eq_true_iff.mp q
    obtain ⟨q2, q⟩ := Bool.and_eq_true_iff.mp q
    obtain ⟨q3, q4⟩ := Bool.and_eq_true_iff.mp q
    exact ⟨of_decide_eq_true q4, gE x HS.top⟩
/-- the classes that are handled -/
theorem clsF_of {dn cl er fr hk ns : List Str} {gi : List (Str × Int)} {top : Str} {fn : List He.DefD} {tf : List He.Defn} (X : K.In base) (G : base.Ns mainGlobals mg) (c : He.SaysX (faAll dn cl fr gi) fn [] tf (exAll er top hk ns) w' h K) (h1 : ∀ k ∈ hk, k ∈ er) (h2 : ∀ n ∈ ns, n ∈ cl ∧ (n == ("__debug__" : Str)) = false) :
    ∀ k ∈ hk, ClsF K mg (He.ga K) ns k := fun k hk' => by
  have ex := c.more
  unfold exAll at ex
  obtain ⟨ex1, ex2⟩ := Bool.and_eq_true_iff.mp ex
  obtain ⟨ex1, _⟩ := Bool.and_eq_true_iff.mp ex1
  obtain ⟨ex2, ex3⟩ := Bool.and_eq_true_iff.mp ex2
  have q := List.all_eq_true.mp ex1 k (h1 k hk')
  unfold clsBH at q
  obtain ⟨q1, q⟩ := Bool.and_eq_true_iff.mp q
  obtain ⟨q2, q⟩ := Bool.and_eq_true_iff.mp q
  have r := List.all_eq_true.mp ex2 k hk'
  unfold kitBH at r
  obtain ⟨r1, r2⟩ := Bool.and_eq_true_iff.mp r
  obtain ⟨e1, e2⟩ := excBH_ok r1
  exact ⟨e1, e2, of_decide_eq_true q2, fun n hn => of_decide_eq_true (List.all_eq_true.mp r2 n hn), fun n hn => He.glo_ok X G (c.t.d.facts (f := .glo n) (List.mem_append_right _ (List.mem_append_left _ (List.mem_map.mpr ⟨n, (h2 n hn).1, rfl⟩)))), fun n hn => (h2 n hn).2⟩
end
end Fh
end
section
set_option Elab.async false
set_option linter.all false
set_option maxRecDepth 100000
namespace Kx
open PySem PySem.Spec PyProof.Rows L2 Fh
def d_is_number : DefI := ⟨"is_number", [("thing" : Str)], [("thing" : Str)], defScope (top 55), defBody (top 55)⟩
def d_number_from : DefI := ⟨"number_from", [("thing" : Str), ("least" : Str)], [("thing" : Str), ("least" : Str)], defScope (top 56), defBody (top 56)⟩
def d_number_below : DefI := ⟨"number_below", [("thing" : Str), ("many" : Str)], [("thing" : Str), ("many" : Str)], defScope (top 57), defBody (top 57)⟩
def d_tuple_of : DefI := ⟨"tuple_of", [("thing" : Str), ("many" : Str)], [("thing" : Str), ("many" : Str)], defScope (top 58), defBody (top 58)⟩
def d_pair_below : DefI := ⟨"pair_below", [("thing" : Str), ("many" : Str), ("a" : Str), ("b" : Str)], [("thing" : Str), ("many" : Str)], defScope (top 59), defBody (top 59)⟩
def d_wrong_number : DefI := ⟨"wrong_number", [("things" : Str), ("least" : Str), ("index" : Str), ("thing" : Str)], [("things" : Str), ("least" : Str)], defScope (top 60), defBody (top 60)⟩
def d_wrong_pair : DefI := ⟨"wrong_pair", [("things" : Str), ("many" : Str), ("ahead" : Str), ("index" : Str), ("thing" : Str)], [("things" : Str), ("many" : Str)], defScope (top 61), defBody (top 61)⟩
def d_made_net : DefI := ⟨"made_net", [("thing" : Str), ("votes" : Str), ("links" : Str), ("need" : Str)], [("thing" : Str)], defScope (top 64), defBody (top 64)⟩
def d_is_net : DefI := ⟨"is_net", [("thing" : Str)], [("thing" : Str)], defScope (top 65), defBody (top 65)⟩
def d_check_all_votes : DefI := ⟨"check_all_votes", [("votes" : Str), ("place" : Str)], [("votes" : Str)], defScope (top 66), defBody (top 66)⟩
def d_check_links : DefI := ⟨"check_links", [("links" : Str), ("many" : Str), ("index" : Str)], [("links" : Str), ("many" : Str)], defScope (top 67), defBody (top 67)⟩
def d_check_need : DefI := ⟨"check_need", [("need" : Str)], [("need" : Str)], defScope (top 68), defBody (top 68)⟩
def d_law_pool : DefI := ⟨"_law_pool", [("script" : Str), ("k" : Str), ("cell" : Str), ("big" : Str), ("mixed" : Str)], [("script" : Str), ("k" : Str)], defScope (top 70), defBody (top 70)⟩
def d_law_take : DefI := ⟨"_law_take", [("jar" : Str), ("top" : Str), ("drawn" : Str)], [("jar" : Str), ("top" : Str)], defScope (top 71), defBody (top 71)⟩
def d_law_one : DefI := ⟨"_law_one", [("jar" : Str), ("things" : Str)], [("jar" : Str), ("things" : Str)], defScope (top 72), defBody (top 72)⟩
def d_law_some : DefI := ⟨"_law_some", [("jar" : Str), ("things" : Str), ("thing" : Str)], [("jar" : Str), ("things" : Str)], defScope (top 73), defBody (top 73)⟩
def d_law_is_whole : DefI := ⟨"_law_is_whole", [("thing" : Str)], [("thing" : Str)], defScope (top 74), defBody (top 74)⟩
def d_law_same : DefI := ⟨"_law_same", [("told" : Str), ("due" : Str), ("at" : Str)], [("told" : Str), ("due" : Str)], defScope (top 75), defBody (top 75)⟩
def d_law_classes : DefI := ⟨"_law_classes", [("error" : Str)], [("error" : Str)], defScope (top 76), defBody (top 76)⟩
def d_law_heard : DefI := ⟨"_law_heard", [("call" : Str), ("error" : Str), ("row" : Str)], [("call" : Str)], defScope (top 77), defBody (top 77)⟩
def d_law_tells : DefI := ⟨"_law_tells", [("call" : Str), ("due" : Str)], [("call" : Str), ("due" : Str)], defScope (top 78), defBody (top 78)⟩
def d_law_ways_in : DefI := ⟨"_law_ways_in", [("thing" : Str), ("depth" : Str), ("levels" : Str), ("parts" : Str), ("deeper" : Str), ("way" : Str), ("part" : Str), ("row" : Str), ("at" : Str)], [("thing" : Str)], defScope (top 79), defBody (top 79)⟩
def d_law_part_in : DefI := ⟨"_law_part_in", [("thing" : Str), ("way" : Str), ("at" : Str)], [("thing" : Str), ("way" : Str)], defScope (top 80), defBody (top 80)⟩
def d_law_set_in : DefI := ⟨"_law_set_in", [("thing" : Str), ("way" : Str), ("part" : Str), ("depth" : Str), ("around" : Str), ("at" : Str)], [("thing" : Str), ("way" : Str), ("part" : Str)], defScope (top 81), defBody (top 81)⟩
def d_law_odds_of : DefI := ⟨"_law_odds_of", [("part" : Str)], [("part" : Str)], defScope (top 82), defBody (top 82)⟩
def d_law_odd : DefI := ⟨"_law_odd", [("thing" : Str), ("number" : Str), ("levels" : Str), ("ways" : Str), ("left" : Str), ("way" : Str), ("odds" : Str)], [("thing" : Str), ("number" : Str)], defScope (top 83), defBody (top 83)⟩
def d_law_listed : DefI := ⟨"_law_listed", [("thing" : Str), ("number" : Str), ("levels" : Str), ("ways" : Str), ("way" : Str), ("tuples" : Str)], [("thing" : Str), ("number" : Str)], defScope (top 84), defBody (top 84)⟩
def d_law_truth_ways : DefI := ⟨"_law_truth_ways", [("thing" : Str), ("found" : Str), ("ways" : Str), ("way" : Str), ("part" : Str)], [("thing" : Str)], defScope (top 85), defBody (top 85)⟩
def d_law_truth : DefI := ⟨"_law_truth", [("thing" : Str), ("number" : Str), ("ways" : Str), ("way" : Str)], [("thing" : Str), ("number" : Str)], defScope (top 86), defBody (top 86)⟩
def d_law_is_pair : DefI := ⟨"_law_is_pair", [("thing" : Str), ("many" : Str)], [("thing" : Str), ("many" : Str)], defScope (top 87), defBody (top 87)⟩
def d_law_net_refusal : DefI := ⟨"_law_net_refusal", [("thing" : Str), ("wrong" : Str), ("at" : Str), ("votes" : Str), ("links" : Str), ("need" : Str), ("x" : Str)], [("thing" : Str)], defScope (top 88), defBody (top 88)⟩
def d_law_judged : DefI := ⟨"_law_judged", [("jar" : Str), ("thing" : Str), ("wrong" : Str), ("due" : Str)], [("jar" : Str), ("thing" : Str)], defScope (top 89), defBody (top 89)⟩
def d_law_size : DefI := ⟨"_law_size", [("jar" : Str), ("least" : Str), ("near" : Str), ("far" : Str)], [("jar" : Str), ("least" : Str)], defScope (top 90), defBody (top 90)⟩
def d_law_raw_net : DefI := ⟨"_law_raw_net", [("jar" : Str), ("n" : Str), ("pairs" : Str), ("every" : Str), ("way" : Str), ("x" : Str)], [("jar" : Str)], defScope (top 91), defBody (top 91)⟩
def d_law_pairs : DefI := ⟨"_law_pairs", [("n" : Str), ("found" : Str), ("a" : Str), ("b" : Str)], [("n" : Str)], defScope (top 92), defBody (top 92)⟩
def d_law_bent_votes : DefI := ⟨"_law_bent_votes", [("jar" : Str), ("votes" : Str), ("way" : Str), ("part" : Str), ("more" : Str), ("x" : Str), ("other" : Str)], [("jar" : Str), ("votes" : Str)], defScope (top 93), defBody (top 93)⟩
def d_law_bent_link : DefI := ⟨"_law_bent_link", [("jar" : Str), ("link" : Str), ("n" : Str), ("far" : Str), ("a" : Str), ("b" : Str)], [("jar" : Str), ("link" : Str), ("n" : Str)], defScope (top 94), defBody (top 94)⟩
def d_law_bent_pairs : DefI := ⟨"_law_bent_pairs", [("jar" : Str), ("pairs" : Str), ("n" : Str), ("way" : Str), ("k" : Str), ("ahead" : Str), ("here" : Str), ("behind" : Str)], [("jar" : Str), ("pairs" : Str), ("n" : Str)], defScope (top 95), defBody (top 95)⟩
def d_law_bent_need : DefI := ⟨"_law_bent_need", [("jar" : Str)], [("jar" : Str)], defScope (top 96), defBody (top 96)⟩
def d_law_bent_net : DefI := ⟨"_law_bent_net", [("jar" : Str), ("net" : Str), ("which" : Str), ("some" : Str), ("least" : Str), ("way" : Str), ("number" : Str), ("votes" : Str), ("pairs" : Str), ("need" : Str)], [("jar" : Str), ("net" : Str)], defScope (top 97), defBody (top 97)⟩
def d_law_full_net : DefI := ⟨"_law_full_net", [("jar" : Str), ("votes" : Str), ("x" : Str)], [("jar" : Str)], defScope (top 98), defBody (top 98)⟩
def d_law : DefI := ⟨"law", [("script" : Str), ("turn" : Str), ("jar" : Str), ("net" : Str), ("bend" : Str), ("thing" : Str), ("twin" : Str), ("number" : Str), ("digits" : Str)], [("script" : Str)], defScope (top 99), defBody (top 99)⟩
def lib : Lib := ⟨[d_is_number, d_number_from, d_number_below, d_tuple_of, d_pair_below, d_wrong_number, d_wrong_pair, d_made_net, d_is_net, d_check_all_votes, d_check_links, d_check_need, d_law_pool, d_law_take, d_law_one, d_law_some, d_law_is_whole, d_law_same, d_law_classes, d_law_heard, d_law_tells, d_law_ways_in, d_law_part_in, d_law_set_in, d_law_odds_of, d_law_odd, d_law_listed, d_law_truth_ways, d_law_truth, d_law_is_pair, d_law_net_refusal, d_law_judged, d_law_size, d_law_raw_net, d_law_pairs, d_law_bent_votes, d_law_bent_link, d_law_bent_pairs, d_law_bent_need, d_law_bent_net, d_law_full_net, d_law], fun x => freeN.contains x, fun x => giN.lookup x, fun x => erN.contains x, fun k x => decide (x = ("Refused" : Str)) && erN.contains k, fun x => lamN.contains x⟩
end Kx
end
section
set_option Elab.async false
set_option linter.all false
set_option maxRecDepth 100000
set_option maxHeartbeats 4000000
namespace Kx
open PySem PySem.Spec PyProof.Rows L2 Fh
theorem bx55 : BX (defArgs (top 55)) d_is_number.ps := ⟨fun _ _ _ _ _ _ _ _ _ _ us hl => match us, hl with | [_], _ => rfl, fun _ _ _ _ _ _ _ _ _ _ y u e => by obtain ⟨rfl, _⟩ := List.cons.inj e; rfl⟩
theorem ad55 : AllD fnH d_is_number := ⟨h55, List.mem_of_getElem? (i := 1) rfl, rfl, rfl, rfl, rfl, rfl, rfl, rfl, bx55⟩
theorem bx56 : BX (defArgs (top 56)) d_number_from.ps := ⟨fun _ _ _ _ _ _ _ _ _ _ us hl => match us, hl with | [_, _], _ => rfl, fun _ _ _ _ _ _ _ _ _ _ y u e => by obtain ⟨_, e⟩ := List.cons.inj e; cases e⟩
theorem ad56 : AllD fnH d_number_from := ⟨h56, List.mem_of_getElem? (i := 2) rfl, rfl, rfl, rfl, rfl, rfl, rfl, rfl, bx56⟩
theorem bx57 : BX (defArgs (top 57)) d_number_below.ps := ⟨fun _ _ _ _ _ _ _ _ _ _ us hl => match us, hl with | [_, _], _ => rfl, fun _ _ _ _ _ _ _ _ _ _ y u e => by obtain ⟨_, e⟩ := List.cons.inj e; cases e⟩
theorem ad57 : AllD fnH d_number_below := ⟨h57, List.mem_of_getElem? (i := 3) rfl, rfl, rfl, rfl, rfl, rfl, rfl, rfl, bx57⟩
theorem bx58 : BX (defArgs (top 58)) d_tuple_of.ps := ⟨fun _ _ _ _ _ _ _ _ _ _ us hl => match us, hl with | [_, _], _ => rfl, fun _ _ _ _ _ _ _ _ _ _ y u e => by obtain ⟨_, e⟩ := List.cons.inj e; cases e⟩
theorem ad58 : AllD fnH d_tuple_of := ⟨h58, List.mem_of_getElem? (i := 4) rfl, rfl, rfl, rfl, rfl, rfl, rfl, rfl, bx58⟩
theorem bx59 : BX (defArgs (top 59)) d_pair_below.ps := ⟨fun _ _ _ _ _ _ _ _ _ _ us hl => match us, hl with | [_, _], _ => rfl, fun _ _ _ _ _ _ _ _ _ _ y u e => by obtain ⟨_, e⟩ := List.cons.inj e; cases e⟩
theorem ad59 : AllD fnH d_pair_below := ⟨h59, List.mem_of_getElem? (i := 5) rfl, rfl, rfl, rfl, rfl, rfl, rfl, rfl, bx59⟩
theorem bx60 : BX (defArgs (top 60)) d_wrong_number.ps := ⟨fun _ _ _ _ _ _ _ _ _ _ us hl => match us, hl with | [_, _], _ => rfl, fun _ _ _ _ _ _ _ _ _ _ y u e => by obtain ⟨_, e⟩ := List.cons.inj e; cases e⟩
theorem ad60 : AllD fnH d_wrong_number := ⟨h60, List.mem_of_getElem? (i := 6) rfl, rfl, rfl, rfl, rfl, rfl, rfl, rfl, bx60⟩
theorem bx61 : BX (defArgs (top 61)) d_wrong_pair.ps := ⟨fun _ _ _ _ _ _ _ _ _ _ us hl => match us, hl with | [_, _], _ => rfl, fun _ _ _ _ _ _ _ _ _ _ y u e => by obtain ⟨_, e⟩ := List.cons.inj e; cases e⟩
theorem ad61 : AllD fnH d_wrong_pair := ⟨h61, List.mem_of_getElem? (i := 7) rfl, rfl, rfl, rfl, rfl, rfl, rfl, rfl, bx61⟩
theorem bx64 : BX (defArgs (top 64)) d_made_net.ps := ⟨fun _ _ _ _ _ _ _ _ _ _ us hl => match us, hl with | [_], _ => rfl, fun _ _ _ _ _ _ _ _ _ _ y u e => by obtain ⟨rfl, _⟩ := List.cons.inj e; rfl⟩
theorem ad64 : AllD fnH d_made_net := ⟨h64, List.mem_of_getElem? (i := 8) rfl, rfl, rfl, rfl, rfl, rfl, rfl, rfl, bx64⟩
theorem bx65 : BX (defArgs (top 65)) d_is_net.ps := ⟨fun _ _ _ _ _ _ _ _ _ _ us hl => match us, hl with | [_], _ => rfl, fun _ _ _ _ _ _ _ _ _ _ y u e => by obtain ⟨rfl, _⟩ := List.cons.inj e; rfl⟩
theorem ad65 : AllD fnH d_is_net := ⟨h65, List.mem_of_getElem? (i := 9) rfl, rfl, rfl, rfl, rfl, rfl, rfl, rfl, bx65⟩
theorem bx66 : BX (defArgs (top 66)) d_check_all_votes.ps := ⟨fun _ _ _ _ _ _ _ _ _ _ us hl => match us, hl with | [_], _ => rfl, fun _ _ _ _ _ _ _ _ _ _ y u e => by obtain ⟨rfl, _⟩ := List.cons.inj e; rfl⟩
theorem ad66 : AllD fnH d_check_all_votes := ⟨h66, List.mem_of_getElem? (i := 10) rfl, rfl, rfl, rfl, rfl, rfl, rfl, rfl, bx66⟩
theorem bx67 : BX (defArgs (top 67)) d_check_links.ps := ⟨fun _ _ _ _ _ _ _ _ _ _ us hl => match us, hl with | [_, _], _ => rfl, fun _ _ _ _ _ _ _ _ _ _ y u e => by obtain ⟨_, e⟩ := List.cons.inj e; cases e⟩
theorem ad67 : AllD fnH d_check_links := ⟨h67, List.mem_of_getElem? (i := 11) rfl, rfl, rfl, rfl, rfl, rfl, rfl, rfl, bx67⟩
theorem bx68 : BX (defArgs (top 68)) d_check_need.ps := ⟨fun _ _ _ _ _ _ _ _ _ _ us hl => match us, hl with | [_], _ => rfl, fun _ _ _ _ _ _ _ _ _ _ y u e => by obtain ⟨rfl, _⟩ := List.cons.inj e; rfl⟩
theorem ad68 : AllD fnH d_check_need := ⟨h68, List.mem_of_getElem? (i := 12) rfl, rfl, rfl, rfl, rfl, rfl, rfl, rfl, bx68⟩
theorem bx70 : BX (defArgs (top 70)) d_law_pool.ps := ⟨fun _ _ _ _ _ _ _ _ _ _ us hl => match us, hl with | [_, _], _ => rfl, fun _ _ _ _ _ _ _ _ _ _ y u e => by obtain ⟨_, e⟩ := List.cons.inj e; cases e⟩
theorem ad70 : AllD fnH d_law_pool := ⟨h70, List.mem_of_getElem? (i := 13) rfl, rfl, rfl, rfl, rfl, rfl, rfl, rfl, bx70⟩
theorem bx71 : BX (defArgs (top 71)) d_law_take.ps := ⟨fun _ _ _ _ _ _ _ _ _ _ us hl => match us, hl with | [_, _], _ => rfl, fun _ _ _ _ _ _ _ _ _ _ y u e => by obtain ⟨_, e⟩ := List.cons.inj e; cases e⟩
theorem ad71 : AllD fnH d_law_take := ⟨h71, List.mem_of_getElem? (i := 14) rfl, rfl, rfl, rfl, rfl, rfl, rfl, rfl, bx71⟩
theorem bx72 : BX (defArgs (top 72)) d_law_one.ps := ⟨fun _ _ _ _ _ _ _ _ _ _ us hl => match us, hl with | [_, _], _ => rfl, fun _ _ _ _ _ _ _ _ _ _ y u e => by obtain ⟨_, e⟩ := List.cons.inj e; cases e⟩
theorem ad72 : AllD fnH d_law_one := ⟨h72, List.mem_of_getElem? (i := 15) rfl, rfl, rfl, rfl, rfl, rfl, rfl, rfl, bx72⟩
theorem bx73 : BX (defArgs (top 73)) d_law_some.ps := ⟨fun _ _ _ _ _ _ _ _ _ _ us hl => match us, hl with | [_, _], _ => rfl, fun _ _ _ _ _ _ _ _ _ _ y u e => by obtain ⟨_, e⟩ := List.cons.inj e; cases e⟩
theorem ad73 : AllD fnH d_law_some := ⟨h73, List.mem_of_getElem? (i := 16) rfl, rfl, rfl, rfl, rfl, rfl, rfl, rfl, bx73⟩
theorem bx74 : BX (defArgs (top 74)) d_law_is_whole.ps := ⟨fun _ _ _ _ _ _ _ _ _ _ us hl => match us, hl with | [_], _ => rfl, fun _ _ _ _ _ _ _ _ _ _ y u e => by obtain ⟨rfl, _⟩ := List.cons.inj e; rfl⟩
theorem ad74 : AllD fnH d_law_is_whole := ⟨h74, List.mem_of_getElem? (i := 17) rfl, rfl, rfl, rfl, rfl, rfl, rfl, rfl, bx74⟩
theorem bx75 : BX (defArgs (top 75)) d_law_same.ps := ⟨fun _ _ _ _ _ _ _ _ _ _ us hl => match us, hl with | [_, _], _ => rfl, fun _ _ _ _ _ _ _ _ _ _ y u e => by obtain ⟨_, e⟩ := List.cons.inj e; cases e⟩
theorem ad75 : AllD fnH d_law_same := ⟨h75, List.mem_of_getElem? (i := 18) rfl, rfl, rfl, rfl, rfl, rfl, rfl, rfl, bx75⟩
theorem bx76 : BX (defArgs (top 76)) d_law_classes.ps := ⟨fun _ _ _ _ _ _ _ _ _ _ us hl => match us, hl with | [_], _ => rfl, fun _ _ _ _ _ _ _ _ _ _ y u e => by obtain ⟨rfl, _⟩ := List.cons.inj e; rfl⟩
theorem ad76 : AllD fnH d_law_classes := ⟨h76, List.mem_of_getElem? (i := 19) rfl, rfl, rfl, rfl, rfl, rfl, rfl, rfl, bx76⟩
theorem bx77 : BX (defArgs (top 77)) d_law_heard.ps := ⟨fun _ _ _ _ _ _ _ _ _ _ us hl => match us, hl with | [_], _ => rfl, fun _ _ _ _ _ _ _ _ _ _ y u e => by obtain ⟨rfl, _⟩ := List.cons.inj e; rfl⟩
theorem ad77 : AllD fnH d_law_heard := ⟨h77, List.mem_of_getElem? (i := 20) rfl, rfl, rfl, rfl, rfl, rfl, rfl, rfl, bx77⟩
theorem bx78 : BX (defArgs (top 78)) d_law_tells.ps := ⟨fun _ _ _ _ _ _ _ _ _ _ us hl => match us, hl with | [_, _], _ => rfl, fun _ _ _ _ _ _ _ _ _ _ y u e => by obtain ⟨_, e⟩ := List.cons.inj e; cases e⟩
theorem ad78 : AllD fnH d_law_tells := ⟨h78, List.mem_of_getElem? (i := 21) rfl, rfl, rfl, rfl, rfl, rfl, rfl, rfl, bx78⟩
theorem bx79 : BX (defArgs (top 79)) d_law_ways_in.ps := ⟨fun _ _ _ _ _ _ _ _ _ _ us hl => match us, hl with | [_], _ => rfl, fun _ _ _ _ _ _ _ _ _ _ y u e => by obtain ⟨rfl, _⟩ := List.cons.inj e; rfl⟩
theorem ad79 : AllD fnH d_law_ways_in := ⟨h79, List.mem_of_getElem? (i := 22) rfl, rfl, rfl, rfl, rfl, rfl, rfl, rfl, bx79⟩
theorem bx80 : BX (defArgs (top 80)) d_law_part_in.ps := ⟨fun _ _ _ _ _ _ _ _ _ _ us hl => match us, hl with | [_, _], _ => rfl, fun _ _ _ _ _ _ _ _ _ _ y u e => by obtain ⟨_, e⟩ := List.cons.inj e; cases e⟩
theorem ad80 : AllD fnH d_law_part_in := ⟨h80, List.mem_of_getElem? (i := 23) rfl, rfl, rfl, rfl, rfl, rfl, rfl, rfl, bx80⟩
theorem bx81 : BX (defArgs (top 81)) d_law_set_in.ps := ⟨fun _ _ _ _ _ _ _ _ _ _ us hl => match us, hl with | [_, _, _], _ => rfl, fun _ _ _ _ _ _ _ _ _ _ y u e => by obtain ⟨_, e⟩ := List.cons.inj e; cases e⟩
theorem ad81 : AllD fnH d_law_set_in := ⟨h81, List.mem_of_getElem? (i := 24) rfl, rfl, rfl, rfl, rfl, rfl, rfl, rfl, bx81⟩
theorem bx82 : BX (defArgs (top 82)) d_law_odds_of.ps := ⟨fun _ _ _ _ _ _ _ _ _ _ us hl => match us, hl with | [_], _ => rfl, fun _ _ _ _ _ _ _ _ _ _ y u e => by obtain ⟨rfl, _⟩ := List.cons.inj e; rfl⟩
theorem ad82 : AllD fnH d_law_odds_of := ⟨h82, List.mem_of_getElem? (i := 25) rfl, rfl, rfl, rfl, rfl, rfl, rfl, rfl, bx82⟩
theorem bx83 : BX (defArgs (top 83)) d_law_odd.ps := ⟨fun _ _ _ _ _ _ _ _ _ _ us hl => match us, hl with | [_, _], _ => rfl, fun _ _ _ _ _ _ _ _ _ _ y u e => by obtain ⟨_, e⟩ := List.cons.inj e; cases e⟩
theorem ad83 : AllD fnH d_law_odd := ⟨h83, List.mem_of_getElem? (i := 26) rfl, rfl, rfl, rfl, rfl, rfl, rfl, rfl, bx83⟩
theorem bx84 : BX (defArgs (top 84)) d_law_listed.ps := ⟨fun _ _ _ _ _ _ _ _ _ _ us hl => match us, hl with | [_, _], _ => rfl, fun _ _ _ _ _ _ _ _ _ _ y u e => by obtain ⟨_, e⟩ := List.cons.inj e; cases e⟩
theorem ad84 : AllD fnH d_law_listed := ⟨h84, List.mem_of_getElem? (i := 27) rfl, rfl, rfl, rfl, rfl, rfl, rfl, rfl, bx84⟩
theorem bx85 : BX (defArgs (top 85)) d_law_truth_ways.ps := ⟨fun _ _ _ _ _ _ _ _ _ _ us hl => match us, hl with | [_], _ => rfl, fun _ _ _ _ _ _ _ _ _ _ y u e => by obtain ⟨rfl, _⟩ := List.cons.inj e; rfl⟩
theorem ad85 : AllD fnH d_law_truth_ways := ⟨h85, List.mem_of_getElem? (i := 28) rfl, rfl, rfl, rfl, rfl, rfl, rfl, rfl, bx85⟩
theorem bx86 : BX (defArgs (top 86)) d_law_truth.ps := ⟨fun _ _ _ _ _ _ _ _ _ _ us hl => match us, hl with | [_, _], _ => rfl, fun _ _ _ _ _ _ _ _ _ _ y u e => by obtain ⟨_, e⟩ := List.cons.inj e; cases e⟩
theorem ad86 : AllD fnH d_law_truth := ⟨h86, List.mem_of_getElem? (i := 29) rfl, rfl, rfl, rfl, rfl, rfl, rfl, rfl, bx86⟩
theorem bx87 : BX (defArgs (top 87)) d_law_is_pair.ps := ⟨fun _ _ _ _ _ _ _ _ _ _ us hl => match us, hl with | [_, _], _ => rfl, fun _ _ _ _ _ _ _ _ _ _ y u e => by obtain ⟨_, e⟩ := List.cons.inj e; cases e⟩
theorem ad87 : AllD fnH d_law_is_pair := ⟨h87, List.mem_of_getElem? (i := 30) rfl, rfl, rfl, rfl, rfl, rfl, rfl, rfl, bx87⟩
theorem bx88 : BX (defArgs (top 88)) d_law_net_refusal.ps := ⟨fun _ _ _ _ _ _ _ _ _ _ us hl => match us, hl with | [_], _ => rfl, fun _ _ _ _ _ _ _ _ _ _ y u e => by obtain ⟨rfl, _⟩ := List.cons.inj e; rfl⟩
theorem ad88 : AllD fnH d_law_net_refusal := ⟨h88, List.mem_of_getElem? (i := 31) rfl, rfl, rfl, rfl, rfl, rfl, rfl, rfl, bx88⟩
theorem bx89 : BX (defArgs (top 89)) d_law_judged.ps := ⟨fun _ _ _ _ _ _ _ _ _ _ us hl => match us, hl with | [_, _], _ => rfl, fun _ _ _ _ _ _ _ _ _ _ y u e => by obtain ⟨_, e⟩ := List.cons.inj e; cases e⟩
theorem ad89 : AllD fnH d_law_judged := ⟨h89, List.mem_of_getElem? (i := 32) rfl, rfl, rfl, rfl, rfl, rfl, rfl, rfl, bx89⟩
theorem bx90 : BX (defArgs (top 90)) d_law_size.ps := ⟨fun _ _ _ _ _ _ _ _ _ _ us hl => match us, hl with | [_, _], _ => rfl, fun _ _ _ _ _ _ _ _ _ _ y u e => by obtain ⟨_, e⟩ := List.cons.inj e; cases e⟩
theorem ad90 : AllD fnH d_law_size := ⟨h90, List.mem_of_getElem? (i := 33) rfl, rfl, rfl, rfl, rfl, rfl, rfl, rfl, bx90⟩
theorem bx91 : BX (defArgs (top 91)) d_law_raw_net.ps := ⟨fun _ _ _ _ _ _ _ _ _ _ us hl => match us, hl with | [_], _ => rfl, fun _ _ _ _ _ _ _ _ _ _ y u e => by obtain ⟨rfl, _⟩ := List.cons.inj e; rfl⟩
theorem ad91 : AllD fnH d_law_raw_net := ⟨h91, List.mem_of_getElem? (i := 34) rfl, rfl, rfl, rfl, rfl, rfl, rfl, rfl, bx91⟩
theorem bx92 : BX (defArgs (top 92)) d_law_pairs.ps := ⟨fun _ _ _ _ _ _ _ _ _ _ us hl => match us, hl with | [_], _ => rfl, fun _ _ _ _ _ _ _ _ _ _ y u e => by obtain ⟨rfl, _⟩ := List.cons.inj e; rfl⟩
theorem ad92 : AllD fnH d_law_pairs := ⟨h92, List.mem_of_getElem? (i := 35) rfl, rfl, rfl, rfl, rfl, rfl, rfl, rfl, bx92⟩
theorem bx93 : BX (defArgs (top 93)) d_law_bent_votes.ps := ⟨fun _ _ _ _ _ _ _ _ _ _ us hl => match us, hl with | [_, _], _ => rfl, fun _ _ _ _ _ _ _ _ _ _ y u e => by obtain ⟨_, e⟩ := List.cons.inj e; cases e⟩
theorem ad93 : AllD fnH d_law_bent_votes := ⟨h93, List.mem_of_getElem? (i := 36) rfl, rfl, rfl, rfl, rfl, rfl, rfl, rfl, bx93⟩
theorem bx94 : BX (defArgs (top 94)) d_law_bent_link.ps := ⟨fun _ _ _ _ _ _ _ _ _ _ us hl => match us, hl with | [_, _, _], _ => rfl, fun _ _ _ _ _ _ _ _ _ _ y u e => by obtain ⟨_, e⟩ := List.cons.inj e; cases e⟩
theorem ad94 : AllD fnH d_law_bent_link := ⟨h94, List.mem_of_getElem? (i := 37) rfl, rfl, rfl, rfl, rfl, rfl, rfl, rfl, bx94⟩
theorem bx95 : BX (defArgs (top 95)) d_law_bent_pairs.ps := ⟨fun _ _ _ _ _ _ _ _ _ _ us hl => match us, hl with | [_, _, _], _ => rfl, fun _ _ _ _ _ _ _ _ _ _ y u e => by obtain ⟨_, e⟩ := List.cons.inj e; cases e⟩
theorem ad95 : AllD fnH d_law_bent_pairs := ⟨h95, List.mem_of_getElem? (i := 38) rfl, rfl, rfl, rfl, rfl, rfl, rfl, rfl, bx95⟩
theorem bx96 : BX (defArgs (top 96)) d_law_bent_need.ps := ⟨fun _ _ _ _ _ _ _ _ _ _ us hl => match us, hl with | [_], _ => rfl, fun _ _ _ _ _ _ _ _ _ _ y u e => by obtain ⟨rfl, _⟩ := List.cons.inj e; rfl⟩
theorem ad96 : AllD fnH d_law_bent_need := ⟨h96, List.mem_of_getElem? (i := 39) rfl, rfl, rfl, rfl, rfl, rfl, rfl, rfl, bx96⟩
theorem bx97 : BX (defArgs (top 97)) d_law_bent_net.ps := ⟨fun _ _ _ _ _ _ _ _ _ _ us hl => match us, hl with | [_, _], _ => rfl, fun _ _ _ _ _ _ _ _ _ _ y u e => by obtain ⟨_, e⟩ := List.cons.inj e; cases e⟩
theorem ad97 : AllD fnH d_law_bent_net := ⟨h97, List.mem_of_getElem? (i := 40) rfl, rfl, rfl, rfl, rfl, rfl, rfl, rfl, bx97⟩
theorem bx98 : BX (defArgs (top 98)) d_law_full_net.ps := ⟨fun _ _ _ _ _ _ _ _ _ _ us hl => match us, hl with | [_], _ => rfl, fun _ _ _ _ _ _ _ _ _ _ y u e => by obtain ⟨rfl, _⟩ := List.cons.inj e; rfl⟩
theorem ad98 : AllD fnH d_law_full_net := ⟨h98, List.mem_of_getElem? (i := 41) rfl, rfl, rfl, rfl, rfl, rfl, rfl, rfl, bx98⟩
theorem bx99 : BX (defArgs (top 99)) d_law.ps := ⟨fun _ _ _ _ _ _ _ _ _ _ us hl => match us, hl with | [_], _ => rfl, fun _ _ _ _ _ _ _ _ _ _ y u e => by obtain ⟨rfl, _⟩ := List.cons.inj e; rfl⟩
theorem ad99 : AllD fnH d_law := ⟨h99, List.mem_of_getElem? (i := 42) rfl, rfl, rfl, rfl, rfl, rfl, rfl, rfl, bx99⟩
theorem bxLaw : BX (defArgs (top 99)) d_law.ps := bx99
theorem allD : AllL (AllD fnH) lib.defs := ⟨ad55, ad56, ad57, ad58, ad59, ad60, ad61, ad64, ad65, ad66, ad67, ad68, ad70, ad71, ad72, ad73, ad74, ad75, ad76, ad77, ad78, ad79, ad80, ad81, ad82, ad83, ad84, ad85, ad86, ad87, ad88, ad89, ad90, ad91, ad92, ad93, ad94, ad95, ad96, ad97, ad98, ad99, trivial⟩
end Kx
end
section
set_option Elab.async false
set_option linter.all false
set_option maxRecDepth 100000
set_option maxHeartbeats 4000000
/-! What the defs of the forms bring. -/
namespace Fh
open PySem PySem.Spec PyProof.Rows L2
/-- an end of a loop's turn -/
def stepQ (N : Rho → HO → Prop) (Q : Out → Prop) : Out → Prop
  | .nx ρ c => N ρ c
  | .ct ρ c => N ρ c
  | .brk ρ c => Q (.nx ρ c)
  | .ret r c => Q (.ret r c)
  | .exn _ _ _ => False
theorem loop_wp {α : Type} {T : Rho → HO → DT Out} {B : D → Rho → Option Rho} {k : Out → DT α} {Q : α → Prop} (I : List D → Rho → HO → Prop) {ds : List D} {ρ : Rho} {c : HO} (h0 : I ds ρ c)
    (step : ∀ d ds ρ c, I (d :: ds) ρ c → ∃ ρ1, B d ρ = some ρ1 ∧ (T ρ1 c).wp (stepQ (I ds) fun o => (k o).wp Q)) (fin : ∀ ρ c, I [] ρ c → (k (.nx ρ c)).wp Q) :
    ∃ x, forI (fun ρ c => (T ρ c).run) B ds ρ c = some x ∧ (k x).wp Q := by
  refine forI_inv (Q := fun o => (k o).wp Q) I (fun d ds ρ c h => ?_) fin h0
  obtain ⟨ρ1, h1, h2⟩ := step d ds ρ c h
  obtain ⟨o, h3, h4⟩ := DT.wp_run h2
  refine ⟨ρ1, h1, o, h3, ?_⟩
  cases o <;> exact h4
theorem lst_wp {α : Type} {B : D → Rho → Option Rho} {T : Rho → HO → Option (Bool × HO)} {V : Rho → HO → Option (D × HO)} {ρ : Rho} {k : List D → HO → DT α} {Q : α → Prop} (I : List D → List D → HO → Prop) {ds : List D} {c : HO} (h0 : I [] ds c)
    (step : ∀ es d ds c, I es (d :: ds) c → ∃ ρ1, B d ρ = some ρ1 ∧ ∃ b c1, T ρ1 c = some (b, c1) ∧ (b = true → ∃ e c2, V ρ1 c1 = some (e, c2) ∧ I (es ++ [e]) ds c2) ∧ (b = false → I es ds c1)) (fin : ∀ es c, I es [] c → (k es c).wp Q) :
    ∃ ls c', lcI B T V ρ ds c = some (ls, c') ∧ (k ls c').wp Q := by
  have y := lcI_inv (Q := fun ls c' => (k ls c').wp Q) I step fin h0
  simpa using y
/-- a reading ends, so -/
def Runs {α : Type} (o : Option α) (Q : α → Prop) : Prop := ∃ p, o = some p ∧ Q p
theorem runs_of {α : Type} {t : DT α} {Q : α → Prop} (h : t.wp Q) : Runs t.run Q := DT.wp_run h
theorem lst_g {B : D → Rho → Option Rho} {T : Rho → HO → Option (Bool × HO)} {V : Rho → HO → Option (D × HO)} {ρ : Rho} {W : List D → HO → Prop} (I : List D → List D → HO → Prop) {ds : List D} {c : HO} (h0 : I [] ds c)
    (step : ∀ es d ds c, I es (d :: ds) c → ∃ ρ1, B d ρ = some ρ1 ∧ Runs (T ρ1 c) fun q => (q.1 = true → Runs (V ρ1 q.2) fun p => I (es ++ [p.1]) ds p.2) ∧ (q.1 = false → I es ds q.2)) (fin : ∀ es c, I es [] c → W es c) :
    ∃ ls c', lcI B T V ρ ds c = some (ls, c') ∧ W ls c' := by
  have y := lcI_inv (Q := W) I (fun es d ds c h => ?_) fin h0 (B := B) (T := T) (V := V) (ρ := ρ)
  · simpa using y
  · obtain ⟨ρ1, h1, q, h3, h4, h5⟩ := step es d ds c h
    refine ⟨ρ1, h1, q.1, q.2, h3, fun z => ?_, h5⟩
    obtain ⟨p, h6, h7⟩ := h4 z
    exact ⟨p.1, p.2, h6, h7⟩
theorem loop_g {T : Rho → HO → DT Out} {B : D → Rho → Option Rho} {W : Out → Prop} (I : List D → Rho → HO → Prop) {ds : List D} {ρ : Rho} {c : HO} (h0 : I ds ρ c)
    (step : ∀ d ds ρ c, I (d :: ds) ρ c → ∃ ρ1, B d ρ = some ρ1 ∧ (T ρ1 c).wp (stepQ (I ds) W)) (fin : ∀ ρ c, I [] ρ c → W (.nx ρ c)) :
    ∃ x, forI (fun ρ c => (T ρ c).run) B ds ρ c = some x ∧ W x := by
  refine forI_inv (Q := W) I (fun d ds ρ c h => ?_) fin h0
  obtain ⟨ρ1, h1, h2⟩ := step d ds ρ c h
  obtain ⟨o, h3, h4⟩ := DT.wp_run h2
  refine ⟨ρ1, h1, o, h3, ?_⟩
  cases o <;> exact h4
theorem brings_eq {f : Fnl} {ds : List D} {c c' : HO} {r : Res} (h : Brings f ds c fun r1 c1 => r1 = r ∧ c1 = c') : f ds c = some (r, c') := by
  obtain ⟨r1, c1, h1, rfl, rfl⟩ := h
  exact h1
def geI (d : D) (n : Int) : Bool := match d with
  | .int i => decide (i ≥ n)
  | _ => false
def plainD : D → Bool
  | .jar => false
  | .ob _ => false
  | .scr _ => false
  | .dct _ _ => false
  | _ => true
def plainAll (ds : List D) : Bool := ds.all plainD
end Fh
namespace Kx
open PySem PySem.Spec PyProof.Rows L2 Fh
def no0 : Str → Option Fnl := fun _ => none
def noH : Str → Option Hfl := fun _ => none
abbrev nf : Str := "number_from"
def f_is_number : Fnl := runDef lib no0 noH d_is_number
def t0 := addS "is_number" f_is_number no0
def f_number_from : Fnl := runDef lib t0 noH d_number_from
def f_tuple_of : Fnl := runDef lib no0 noH d_tuple_of
def t1 := addS "number_from" f_number_from (addS "tuple_of" f_tuple_of no0)
def f_number_below : Fnl := runDef lib t1 noH d_number_below
def f_wrong_number : Fnl := runDef lib t1 noH d_wrong_number
local macro_rules | `(tactic| walk_at "wp") => `(tactic| set_option smartUnfolding false in with_unfolding_all conv => whnf)
def isIntD (d : D) : Bool := match d with
  | .int _ => true
  | _ => false
theorem is_number_ok {d : D} {c : HO} (hd : plainD d = true) : f_is_number [d] c = some (.ok (.bl (isIntD d)), c) := by
  refine brings_eq (brings_of rfl ?_)
  cases d with
  | jar => cases hd
  | ob _ => cases hd
  | scr _ => cases hd
  | dct _ _ => cases hd
  | _ => 
    walk_at "wp"
    exact ⟨rfl, rfl⟩
theorem number_from_ok {d : D} {n : Int} {c : HO} (hd : plainD d = true) : f_number_from [d, .int n] c = some (.ok (.bl (geI d n)), c) := by
  refine brings_eq (brings_of rfl ?_)
  walk_at "wp"
  refine ⟨_, _, is_number_ok hd, ?_⟩
  cases d with
  | int i =>
    walk_at "wp"
    refine ⟨fun h => ?_, fun h => ?_⟩
    · walk_at "wp"
      exact ⟨rfl, rfl⟩
    · cases h
  | jar => cases hd
  | ob _ => cases hd
  | scr _ => cases hd
  | dct _ _ => cases hd
  | _ => 
    walk_at "wp"
    refine ⟨fun h => ?_, fun h => ?_⟩
    · cases h
    · walk_at "wp"
      exact ⟨rfl, rfl⟩
def isTup (d : D) (n : Nat) : Bool := match d with
  | .tup l => decide (l.length = n)
  | _ => false
theorem tuple_of_ok {d : D} {n : Nat} {c : HO} (hd : plainD d = true) : f_tuple_of [d, .int n] c = some (.ok (.bl (isTup d n)), c) := by
  refine brings_eq (brings_of rfl ?_)
  cases d with
  | tup i =>
    walk_at "wp"
    refine ⟨fun h => ?_, fun h => ?_⟩
    · walk_at "wp"
      refine ⟨?_, rfl⟩
      show Res.ok (.bl (decide ((i.length : Int) = (n : Int)))) = Res.ok (.bl (decide (i.length = n)))
      congr 3
      exact propext Int.ofNat_inj
    · cases h
  | jar => cases hd
  | ob _ => cases hd
  | scr _ => cases hd
  | dct _ _ => cases hd
  | _ => 
    walk_at "wp"
    refine ⟨fun h => ?_, fun h => ?_⟩
    · cases h
    · walk_at "wp"
      exact ⟨rfl, rfl⟩
def ltI (d : D) (n : Int) : Bool := match d with
  | .int i => decide (i < n)
  | _ => false
theorem number_below_ok {d : D} {n : Int} {c : HO} (hd : plainD d = true) : f_number_below [d, .int n] c = some (.ok (.bl (geI d 0 && ltI d n)), c) := by
  refine brings_eq (brings_of rfl ?_)
  walk_at "wp"
  refine ⟨_, _, number_from_ok hd, ?_⟩
  walk_at "wp"
  refine ⟨fun h => ?_, fun h => ?_⟩
  · dsimp only at h
    cases d with
    | int i =>
      walk_at "wp"
      refine ⟨?_, rfl⟩
      rw [h]
      rfl
    | _ => cases h
  · dsimp only at h
    walk_at "wp"
    refine ⟨?_, rfl⟩
    rw [h]
    rfl
/-- the first index, from k on, whose thing p refuses -/
def firstBad (p : D → Bool) : Nat → List D → D
  | _, [] => .non
  | k, d :: ds => if p d then firstBad p (k + 1) ds else .int k
theorem wrong_number_ok {ds : List D} {n : Int} {c : HO} (hd : plainAll ds = true) : f_wrong_number [.tup ds, .int n] c = some (.ok (firstBad (fun d => geI d n) 0 ds), c) := by
  refine brings_eq (brings_of rfl ?_)
  walk_at "wp"
  refine loop_wp (fun es ρ c' => c' = c ∧ (∃ x y, ρ = [some (.fr (.tup ds)), some (.fr (.int n)), x, y]) ∧ ∃ k ls, es = enumD k ls ∧ plainAll ls = true ∧ firstBad (fun d => geI d n) 0 ds = firstBad (fun d => geI d n) k ls) ?_ ?_ ?_
  · exact ⟨rfl, ⟨_, _, rfl⟩, 0, ds, rfl, hd, rfl⟩
  · rintro d es ρ c' ⟨rfl, ⟨x, y, rfl⟩, k, ls, h1, h2, h3⟩
    cases ls with
    | nil => cases h1
    | cons e ls =>
      cases h1
      have h4 := Bool.and_eq_true_iff.mp (show (plainD e && plainAll ls) = true from h2)
      refine ⟨_, rfl, ?_⟩
      walk_at "wp"
      refine ⟨_, _, number_from_ok h4.1, ?_⟩
      walk_at "wp"
      refine ⟨fun h => ?_, fun h => ?_⟩
      · dsimp only at h
        walk_at "wp"
        refine ⟨?_, rfl⟩
        rw [h3]
        unfold firstBad
        have h' : geI e n = false := by simpa using h
        rw [if_neg (by rw [h']; decide)]
      · dsimp only at h
        walk_at "wp"
        refine ⟨rfl, ⟨_, _, rfl⟩, k + 1, ls, rfl, h4.2, ?_⟩
        rw [h3]
        have h' : geI e n = true := by simpa using h
        show (if geI e n = true then _ else _) = _
        rw [if_pos h']
  · rintro ρ c' ⟨rfl, ⟨x, y, rfl⟩, k, ls, h1, h2, h3⟩
    cases ls with
    | cons e ls => cases h1
    | nil =>
      walk_at "wp"
      refine ⟨?_, rfl⟩
      rw [h3]
      rfl
end Kx
end
section
set_option Elab.async false
set_option linter.all false
set_option maxRecDepth 100000
set_option maxHeartbeats 4000000
/-! Plain data of bounded depth. -/
namespace Fh
open PySem PySem.Spec PyProof.Rows L2
mutual
def D.dok : D → Nat → Bool
  | .non, _ => true
  | .bl _, _ => true
  | .int _, _ => true
  | .str s, _ => PyData.strOk s
  | .tup l, n => match n with
    | 0 => false
    | n + 1 => decide (l.length ≤ 1000000) && D.doks l n
  | .lst l, n => match n with
    | 0 => false
    | n + 1 => decide (l.length ≤ 1000000) && D.doks l n
  | .jar, _ => false
  | .ob _, _ => false
  | .scr _, _ => false
  | .dct _ _, _ => false
def D.doks : List D → Nat → Bool
  | [], _ => true
  | d :: l, n => d.dok n && D.doks l n
end
theorem doks_iff {n : Nat} : ∀ {l : List D}, D.doks l n = true ↔ ∀ d ∈ l, d.dok n = true
  | [] => ⟨fun _ d z => by simp at z, fun _ => rfl⟩
  | e :: l => by
    show (e.dok n && D.doks l n) = true ↔ _
    rw [Bool.and_eq_true_iff, doks_iff (l := l)]
    simp
theorem dok_tup {n : Nat} {l : List D} : (D.tup l).dok (n + 1) = true ↔ l.length ≤ 1000000 ∧ ∀ d ∈ l, d.dok n = true := by
  show (decide (l.length ≤ 1000000) && D.doks l n) = true ↔ _
  rw [Bool.and_eq_true_iff, doks_iff, decide_eq_true_iff]
theorem dok_lst {n : Nat} {l : List D} : (D.lst l).dok (n + 1) = true ↔ l.length ≤ 1000000 ∧ ∀ d ∈ l, d.dok n = true := by
  show (decide (l.length ≤ 1000000) && D.doks l n) = true ↔ _
  rw [Bool.and_eq_true_iff, doks_iff, decide_eq_true_iff]
mutual
theorem dok_up : ∀ {d : D} {n m : Nat}, n ≤ m → d.dok n = true → d.dok m = true
  | .non, _, _, _, _ => rfl
  | .bl _, _, _, _, _ => rfl
  | .int _, _, _, _, _ => rfl
  | .str _, _, _, _, h => h
  | .tup l, 0, _, _, h => by cases h
  | .lst l, 0, _, _, h => by cases h
  | .tup l, n + 1, 0, z, _ => by omega
  | .lst l, n + 1, 0, z, _ => by omega
  | .tup l, n + 1, m + 1, z, h => by
    have h' := Bool.and_eq_true_iff.mp (show (_ && _) = true from h)
    exact Bool.and_eq_true_iff.mpr ⟨h'.1, doks_up (by omega) h'.2⟩
  | .lst l, n + 1, m + 1, z, h => by
    have h' := Bool.and_eq_true_iff.mp (show (_ && _) = true from h)
    exact Bool.and_eq_true_iff.mpr ⟨h'.1, doks_up (by omega) h'.2⟩
  | .jar, _, _, _, h => by cases h
  | .ob _, _, _, _, h => by cases h
  | .scr _, _, _, _, h => by cases h
  | .dct _ _, _, _, _, h => by cases h
theorem doks_up : ∀ {l : List D} {n m : Nat}, n ≤ m → D.doks l n = true → D.doks l m = true
  | [], _, _, _, _ => rfl
  | d :: l, n, m, z, h => by
    have h' := Bool.and_eq_true_iff.mp (show (_ && _) = true from h)
    exact Bool.and_eq_true_iff.mpr ⟨dok_up z h'.1, doks_up z h'.2⟩
end
mutual
theorem dok_plain : ∀ {d : D} {n : Nat}, d.dok n = true → d.plain = true ∧ d.nojar = true ∧ d.py.canLay0 = true ∧ d.py.depth ≤ n
  | .non, _, _ => ⟨rfl, rfl, rfl, Nat.zero_le _⟩
  | .bl _, _, _ => ⟨rfl, rfl, rfl, Nat.zero_le _⟩
  | .int _, _, _ => ⟨rfl, rfl, rfl, Nat.zero_le _⟩
  | .str _, _, h => ⟨rfl, rfl, h, Nat.zero_le _⟩
  | .tup l, 0, h => by cases h
  | .lst l, 0, h => by cases h
  | .tup l, n + 1, h => by
    have h' := Bool.and_eq_true_iff.mp (show (_ && _) = true from h)
    obtain ⟨a, b, c, d⟩ := doks_plain h'.2
    exact ⟨a, b, c, Nat.succ_le_succ d⟩
  | .lst l, n + 1, h => by
    have h' := Bool.and_eq_true_iff.mp (show (_ && _) = true from h)
    obtain ⟨a, b, c, d⟩ := doks_plain h'.2
    exact ⟨a, b, c, Nat.succ_le_succ d⟩
  | .jar, _, h => by cases h
  | .ob _, _, h => by cases h
  | .scr _, _, h => by cases h
  | .dct _ _, _, h => by cases h
theorem doks_plain : ∀ {l : List D} {n : Nat}, D.doks l n = true → D.plains l = true ∧ D.nojars l = true ∧ PyData.canLayAll0 (D.pys l) = true ∧ PyData.depthAll (D.pys l) ≤ n
  | [], _, _ => ⟨rfl, rfl, rfl, Nat.zero_le _⟩
  | d :: l, n, h => by
    have h' := Bool.and_eq_true_iff.mp (show (_ && _) = true from h)
    obtain ⟨a, b, c, e⟩ := dok_plain h'.1
    obtain ⟨a', b', c', e'⟩ := doks_plain h'.2
    exact ⟨Bool.and_eq_true_iff.mpr ⟨a, a'⟩, Bool.and_eq_true_iff.mpr ⟨b, b'⟩, Bool.and_eq_true_iff.mpr ⟨c, c'⟩, Nat.max_le.mpr ⟨e, e'⟩⟩
end
theorem dok_plainD {d : D} {n : Nat} (h : d.dok n = true) : plainD d = true := by
  cases d with
  | jar => cases h
  | ob _ => cases h
  | scr _ => cases h
  | dct _ _ => cases h
  | _ => rfl
theorem dok_eqs {d : D} {n : Nat} (h : d.dok n = true) (hn : n ≤ 64) : d.eqs = true := by
  obtain ⟨a, b, c, e⟩ := dok_plain h
  exact Bool.and_eq_true_iff.mpr ⟨a, Bool.and_eq_true_iff.mpr ⟨c, decide_eq_true (Nat.le_trans e hn)⟩⟩
theorem plainAll_of {l : List D} {n : Nat} (h : ∀ d ∈ l, d.dok n = true) : plainAll l = true := by
  unfold plainAll
  rw [List.all_eq_true]
  exact fun d z => dok_plainD (h d z)
def eqE (l : List D) : Bool := l.isEmpty
/-- l == () and l == [] -/
theorem eq_emT {l : List D} {n : Nat} (h : (D.tup l).dok n = true) (hn : n ≤ 64) : eqD (.tup l) (.tup []) = some l.isEmpty := by
  unfold eqD
  have a := dok_eqs h hn
  have b : (D.tup []).eqs = true := rfl
  show (if (D.tup l).eqs = true ∧ (D.tup []).eqs = true then _ else _) = _
  rw [if_pos ⟨a, b⟩]
  cases l <;> rfl
theorem eq_emL {l : List D} {n : Nat} (h : (D.lst l).dok n = true) (hn : n ≤ 64) : eqD (.lst l) (.lst []) = some l.isEmpty := by
  unfold eqD
  have a := dok_eqs h hn
  have b : (D.lst []).eqs = true := rfl
  show (if (D.lst l).eqs = true ∧ (D.lst []).eqs = true then _ else _) = _
  rw [if_pos ⟨a, b⟩]
  cases l <;> rfl
end Fh
end
section
set_option Elab.async false
set_option linter.all false
set_option maxRecDepth 100000
set_option maxHeartbeats 4000000
/-! What the defs of the forms and of the nets bring. -/
namespace Kx
open PySem PySem.Spec PyProof.Rows L2 Fh
local macro_rules | `(tactic| walk_at "wp") => `(tactic| set_option smartUnfolding false in with_unfolding_all conv => whnf)
def t2 := addS "number_below" f_number_below (addS "wrong_number" f_wrong_number t1)
def f_pair_below : Fnl := runDef lib t2 noH d_pair_below
def asPair : D → Option (Int × Int)
  | .tup [.int a, .int b] => some (a, b)
  | _ => none
def okPair (m : Int) (a b : Int) : Bool := decide (a ≥ 0) && decide (a < m) && (decide (b ≥ 0) && decide (b < m)) && decide (a < b)
def pairB (d : D) (m : Int) : Bool := match asPair d with
  | some (a, b) => okPair m a b
  | none => false
theorem asPair_ok {d : D} {a b : Int} (h : asPair d = some (a, b)) : d = .tup [.int a, .int b] := by
  unfold asPair at h
  split at h
  · cases h; rfl
  · cases h
theorem geI_int {d : D} {n : Int} (h : geI d n = true) : ∃ i, d = .int i := by
  cases d with
  | int i => exact ⟨i, rfl⟩
  | _ => cases h
theorem geI_asP {a b : D} (h : (∃ i, a = .int i) → (∃ i, b = .int i) → False) : asPair (.tup [a, b]) = none := by
  unfold asPair
  split
  · rename_i e; cases e; exact (h ⟨_, rfl⟩ ⟨_, rfl⟩).elim
  · rfl
theorem pair_below_ok {d : D} {m : Int} {n : Nat} {c : HO} (hd : d.dok n = true) : f_pair_below [d, .int m] c = some (.ok (.bl (pairB d m)), c) := by
  refine brings_eq (brings_of rfl ?_)
  walk_at "wp"
  refine ⟨_, _, tuple_of_ok (n := 2) (dok_plainD hd), ?_⟩
  walk_at "wp"
  refine ⟨fun h => ?_, fun h => ?_⟩
  · dsimp only at h
    have h' : isTup d 2 = false := by simpa using h
    walk_at "wp"
    refine ⟨?_, rfl⟩
    have e : pairB d m = false := by
      unfold pairB
      cases e : asPair d with
      | none => rfl
      | some p => 
        obtain ⟨a, b⟩ := p
        have e2 := asPair_ok e
        subst e2
        cases h'
    rw [e]
  · dsimp only at h
    have h' : isTup d 2 = true := by simpa using h
    cases d with
    | tup l =>
      have hl : l.length = 2 := of_decide_eq_true h'
      obtain ⟨a, b, rfl⟩ : ∃ a b, l = [a, b] := by
        match l, hl with
        | [a, b], _ => exact ⟨a, b, rfl⟩
      cases n with
      | zero => cases hd
      | succ n =>
      have hx := (dok_tup.mp hd).2
      have ha := dok_plainD (hx a (by simp))
      have hb := dok_plainD (hx b (by simp))
      walk_at "wp"
      refine ⟨_, _, number_below_ok ha, ?_⟩
      walk_at "wp"
      refine ⟨fun g => ?_, fun g => ?_⟩
      · dsimp only at g
        obtain ⟨i, rfl⟩ := geI_int (Bool.and_eq_true_iff.mp g).1
        walk_at "wp"
        refine ⟨_, _, number_below_ok hb, ?_⟩
        walk_at "wp"
        refine ⟨fun h2 => ?_, fun h2 => ?_⟩
        · dsimp only at h2
          obtain ⟨j, rfl⟩ := geI_int (Bool.and_eq_true_iff.mp h2).1
          walk_at "wp"
          refine ⟨?_, rfl⟩
          show Res.ok (.bl (decide (i < j))) = Res.ok (.bl (pairB (.tup [.int i, .int j]) m))
          have e : pairB (.tup [.int i, .int j]) m = ((geI (.int i) 0 && ltI (.int i) m) && (geI (.int j) 0 && ltI (.int j) m) && decide (i < j)) := rfl
          rw [e, g, h2]
          rfl
        · dsimp only at h2
          walk_at "wp"
          refine ⟨?_, rfl⟩
          have e : pairB (.tup [.int i, b]) m = false := by
            unfold pairB
            cases e : asPair (.tup [.int i, b]) with
            | none => rfl
            | some p =>
              obtain ⟨x, y⟩ := p
              have e2 := asPair_ok e
              cases e2
              show ((geI (.int i) 0 && ltI (.int i) m) && (geI (.int y) 0 && ltI (.int y) m) && decide (i < y)) = false
              rw [h2, g]; rfl
          rw [e]
      · dsimp only at g
        walk_at "wp"
        refine ⟨?_, rfl⟩
        have e : pairB (.tup [a, b]) m = false := by
          unfold pairB
          cases e : asPair (.tup [a, b]) with
          | none => rfl
          | some p =>
            obtain ⟨x, y⟩ := p
            have e2 := asPair_ok e
            cases e2
            show ((geI (.int x) 0 && ltI (.int x) m) && (geI (.int y) 0 && ltI (.int y) m) && decide (x < y)) = false
            rw [g]; rfl
        rw [e]
    | _ => cases h'
def t3 := addS "pair_below" f_pair_below t2
def f_wrong_pair : Fnl := runDef lib t3 noH d_wrong_pair
def badPair (m : Int) : Int → Int → Nat → List D → D
  | _, _, _, [] => .non
  | x, y, k, d :: ds => match asPair d with
    | some (a, b) => if (okPair m a b && !leP a b x y) = true then badPair m a b (k + 1) ds else .int k
    | none => .int k
theorem wrong_pair_ok {ds : List D} {m : Int} {n : Nat} {c : HO} (hd : ∀ d ∈ ds, d.dok n = true) : f_wrong_pair [.tup ds, .int m] c = some (.ok (badPair m (-1) (-1) 0 ds), c) := by
  refine brings_eq (brings_of rfl ?_)
  walk_at "wp"
  refine loop_wp (fun es ρ c' => c' = c ∧ ∃ x y k ls, (∃ u v, ρ = [some (.fr (.tup ds)), some (.fr (.int m)), some (.fr (.tup [.int x, .int y])), u, v]) ∧ es = enumD k ls ∧ (∀ d ∈ ls, d.dok n = true) ∧ badPair m (-1) (-1) 0 ds = badPair m x y k ls) ?_ ?_ ?_
  · exact ⟨rfl, _, _, 0, ds, ⟨_, _, rfl⟩, rfl, hd, rfl⟩
  · rintro d es ρ c' ⟨rfl, x, y, k, ls, ⟨u, v, rfl⟩, h1, h2, h3⟩
    cases ls with
    | nil => cases h1
    | cons e ls =>
      cases h1
      refine ⟨_, rfl, ?_⟩
      have he := h2 e (by simp)
      walk_at "wp"
      refine ⟨_, _, pair_below_ok he, ?_⟩
      walk_at "wp"
      refine ⟨fun h => ?_, fun h => ?_⟩
      · dsimp only at h
        have h' : pairB e m = false := by simpa using h
        walk_at "wp"
        refine ⟨fun h => ?_, fun h => by cases h⟩
        walk_at "wp"
        refine ⟨?_, rfl⟩
        rw [h3]
        unfold badPair
        unfold pairB at h'
        cases e2 : asPair e with
        | none => rfl
        | some p =>
          obtain ⟨a, b⟩ := p
          rw [e2] at h'
          dsimp only at h' ⊢
          rw [h']
          rfl
      · dsimp only at h
        have h' : pairB e m = true := by simpa using h
        unfold pairB at h'
        cases e2 : asPair e with
        | none => rw [e2] at h'; cases h'
        | some p =>
          obtain ⟨a, b⟩ := p
          rw [e2] at h'
          dsimp only at h'
          have e3 := asPair_ok e2
          subst e3
          walk_at "wp"
          refine ⟨fun h => ?_, fun h => ?_⟩
          · dsimp only at h
            walk_at "wp"
            refine ⟨?_, rfl⟩
            rw [h3]
            unfold badPair
            rw [e2]
            dsimp only
            rw [h', h]
            rfl
          · dsimp only at h
            walk_at "wp"
            refine ⟨rfl, a, b, k + 1, ls, ⟨_, _, rfl⟩, rfl, fun d z => h2 d (by simp [z]), ?_⟩
            rw [h3]
            show (match asPair (.tup [.int a, .int b]) with
              | some (a, b) => if (okPair m a b && !leP a b x y) = true then badPair m a b (k + 1) ls else .int k
              | none => .int k) = _
            rw [e2]
            dsimp only
            rw [h', h]
            rfl
  · rintro ρ c' ⟨rfl, x, y, k, ls, ⟨u, v, rfl⟩, h1, h2, h3⟩
    cases ls with
    | cons e ls => cases h1
    | nil =>
      walk_at "wp"
      refine ⟨?_, rfl⟩
      rw [h3]
      rfl
end Kx
end
section
set_option Elab.async false
set_option linter.all false
set_option maxRecDepth 100000
set_option maxHeartbeats 4000000
/-! What the defs of the nets bring. -/
namespace Kx
open PySem PySem.Spec PyProof.Rows L2 Fh
local macro_rules | `(tactic| walk_at "wp") => `(tactic| set_option smartUnfolding false in with_unfolding_all conv => whnf)
def t4 := addS "wrong_pair" f_wrong_pair t3
def f_check_all_votes : Fnl := runDef lib t4 noH d_check_all_votes
def f_check_links : Fnl := runDef lib t4 noH d_check_links
def f_check_need : Fnl := runDef lib t4 noH d_check_need
def t5 := addS "check_all_votes" f_check_all_votes (addS "check_links" f_check_links (addS "check_need" f_check_need t4))
def f_made_net : Fnl := runDef lib t5 noH d_made_net
def t6 := addS "made_net" f_made_net t5
def f_is_net : Fnl := runDef lib t6 noH d_is_net
def resO (o : Option (Str × D)) (d : D) : Res := match o with
  | none => .ok d
  | some (k, e) => .ex k e
theorem firstBad_cases (p : D → Bool) : ∀ (l : List D) (k : Nat), firstBad p k l = .non ∨ ∃ i : Nat, firstBad p k l = .int i
  | [], _ => .inl rfl
  | d :: l, k => by
    unfold firstBad
    split
    · exact firstBad_cases p l _
    · exact .inr ⟨k, rfl⟩
theorem badPair_cases {m : Int} : ∀ (l : List D) (x y : Int) (k : Nat), badPair m x y k l = .non ∨ ∃ i : Nat, badPair m x y k l = .int i
  | [], _, _, _ => .inl rfl
  | d :: l, x, y, k => by
    unfold badPair
    split
    · split
      · exact badPair_cases l _ _ _
      · exact .inr ⟨k, rfl⟩
    · exact .inr ⟨k, rfl⟩
def badAs (k : Str) (d : D) : Option (Str × D) := match d with
  | .non => none
  | d => some (k, d)
def votesR (v : D) : Option (Str × D) := match v with
  | .tup l => if decide ((l.length : Int) > 40) = true then some ("TooMany", .int l.length) else badAs "BadVotes" (firstBad (fun d => geI d 0) 0 l)
  | _ => some ("BadVotes", .int (-1))
def linksR (v : D) (m : Int) : Option (Str × D) := match v with
  | .tup l => badAs "BadLinks" (badPair m (-1) (-1) 0 l)
  | _ => some ("BadLinks", .int (-1))
def needR (v : D) : Option (Str × D) := if geI v 1 = true then none else some ("BadNeed", v)
theorem check_need_ok {d : D} {n : Nat} {c : HO} (hd : d.dok n = true) : f_check_need [d] c = some (resO (needR d) .non, c) := by
  refine brings_eq (brings_of rfl ?_)
  walk_at "wp"
  refine ⟨_, _, number_from_ok (dok_plainD hd), ?_⟩
  walk_at "wp"
  refine ⟨fun h => ?_, fun h => ?_⟩
  · dsimp only at h
    have h' : geI d 1 = false := by simpa using h
    walk_at "wp"
    refine ⟨?_, rfl⟩
    unfold needR
    rw [h']
    rfl
  · dsimp only at h
    have h' : geI d 1 = true := by simpa using h
    walk_at "wp"
    refine ⟨?_, rfl⟩
    unfold needR
    rw [h']
    rfl
theorem check_all_votes_ok {d : D} {n : Nat} {c : HO} (hd : d.dok n = true) : f_check_all_votes [d] c = some (resO (votesR d) .non, c) := by
  refine brings_eq (brings_of rfl ?_)
  cases d with
  | tup l =>
    cases n with
    | zero => cases hd
    | succ n =>
    have hp := plainAll_of (dok_tup.mp hd).2
    walk_at "wp"
    refine ⟨fun h => (by cases h), fun _ => ?_⟩
    walk_at "wp"
    refine ⟨fun h => ?_, fun h => ?_⟩
    · dsimp only at h
      walk_at "wp"
      refine ⟨?_, rfl⟩
      show _ = resO (if decide ((l.length : Int) > 40) = true then some (("TooMany" : Str), D.int l.length) else _) _
      rw [show decide ((l.length : Int) > 40) = true from h]
      rfl
    · dsimp only at h
      walk_at "wp"
      have e2 : votesR (.tup l) = badAs "BadVotes" (firstBad (fun d => geI d 0) 0 l) := by
        show (if decide ((l.length : Int) > 40) = true then some (("TooMany" : Str), D.int l.length) else _) = _
        rw [show decide ((l.length : Int) > 40) = false from h]
        rfl
      rcases firstBad_cases (fun d => geI d 0) l 0 with z | ⟨i, z⟩
      · refine ⟨_, _, (wrong_number_ok hp).trans (by rw [z]), ?_⟩
        walk_at "wp"
        refine ⟨fun h => (by cases h), fun _ => ?_⟩
        walk_at "wp"
        exact ⟨by rw [e2, z]; rfl, rfl⟩
      · refine ⟨_, _, (wrong_number_ok hp).trans (by rw [z]), ?_⟩
        walk_at "wp"
        refine ⟨fun _ => ?_, fun h => (by cases h)⟩
        walk_at "wp"
        exact ⟨by rw [e2, z]; rfl, rfl⟩
  | jar => cases hd
  | ob _ => cases hd
  | scr _ => cases hd
  | dct _ _ => cases hd
  | _ =>
    walk_at "wp"
    refine ⟨fun h => ?_, fun h => (by cases h)⟩
    walk_at "wp"
    exact ⟨rfl, rfl⟩
theorem check_links_ok {d : D} {n : Nat} {m : Int} {c : HO} (hd : d.dok n = true) : f_check_links [d, .int m] c = some (resO (linksR d m) .non, c) := by
  refine brings_eq (brings_of rfl ?_)
  cases d with
  | tup l =>
    cases n with
    | zero => cases hd
    | succ n =>
    have hp := (dok_tup.mp hd).2
    walk_at "wp"
    refine ⟨fun h => (by cases h), fun _ => ?_⟩
    walk_at "wp"
    have e2 : linksR (.tup l) m = badAs "BadLinks" (badPair m (-1) (-1) 0 l) := rfl
    rcases badPair_cases (m := m) l (-1) (-1) 0 with z | ⟨i, z⟩
    · refine ⟨_, _, (wrong_pair_ok hp).trans (by rw [z]), ?_⟩
      walk_at "wp"
      refine ⟨fun h => (by cases h), fun _ => ?_⟩
      walk_at "wp"
      exact ⟨by rw [e2, z]; rfl, rfl⟩
    · refine ⟨_, _, (wrong_pair_ok hp).trans (by rw [z]), ?_⟩
      walk_at "wp"
      refine ⟨fun _ => ?_, fun h => (by cases h)⟩
      walk_at "wp"
      exact ⟨by rw [e2, z]; rfl, rfl⟩
  | jar => cases hd
  | ob _ => cases hd
  | scr _ => cases hd
  | dct _ _ => cases hd
  | _ =>
    walk_at "wp"
    refine ⟨fun h => ?_, fun h => (by cases h)⟩
    walk_at "wp"
    exact ⟨rfl, rfl⟩
def lenI (d : D) : Int := match d with
  | .tup l => (l.length : Int)
  | _ => 0
def netR (d : D) : Option (Str × D) := match d with
  | .tup [v, l, n] => match votesR v with
    | some e => some e
    | none => match linksR l (lenI v) with
      | some e => some e
      | none => needR n
  | _ => some ("BadNet", .int (-1))
theorem votesR_tup {v : D} (h : votesR v = none) : ∃ l, v = .tup l := by
  cases v with
  | tup l => exact ⟨l, rfl⟩
  | _ => cases h
theorem notTup3 {d : D} (h : isTup d 3 = false) : netR d = some (("BadNet" : Str), D.int (-1)) := by
  unfold netR
  split
  · cases h
  · rfl
theorem made_net_ok {d : D} {n : Nat} {c : HO} (hd : d.dok n = true) : f_made_net [d] c = some (resO (netR d) d, c) := by
  refine brings_eq (brings_of rfl ?_)
  walk_at "wp"
  refine ⟨_, _, tuple_of_ok (n := 3) (dok_plainD hd), ?_⟩
  walk_at "wp"
  refine ⟨fun h => ?_, fun h => ?_⟩
  · dsimp only at h
    have h' : isTup d 3 = false := by simpa using h
    walk_at "wp"
    refine ⟨?_, rfl⟩
    rw [notTup3 h']
    rfl
  · dsimp only at h
    have h' : isTup d 3 = true := by simpa using h
    cases d with
    | tup l =>
      have hl : l.length = 3 := of_decide_eq_true h'
      obtain ⟨v, a, b, rfl⟩ : ∃ v a b, l = [v, a, b] := by
        match l, hl with
        | [v, a, b], _ => exact ⟨v, a, b, rfl⟩
      cases n with
      | zero => cases hd
      | succ n =>
      have hx := (dok_tup.mp hd).2
      have hv := hx v (by simp)
      have ha := hx a (by simp)
      have hb := hx b (by simp)
      walk_at "wp"
      have e0 : netR (.tup [v, a, b]) = (match votesR v with
        | some e => some e
        | none => match linksR a (lenI v) with
          | some e => some e
          | none => needR b) := rfl
      cases ev : votesR v with
      | some e =>
        obtain ⟨k, e⟩ := e
        refine ⟨_, _, (check_all_votes_ok hv).trans (by rw [ev] <;> rfl), ?_⟩
        walk_at "wp"
        exact ⟨by rw [e0, ev]; rfl, rfl⟩
      | none =>
        refine ⟨_, _, (check_all_votes_ok hv).trans (by rw [ev] <;> rfl), ?_⟩
        obtain ⟨vl, rfl⟩ := votesR_tup ev
        walk_at "wp"
        cases el : linksR a (lenI (.tup vl)) with
        | some e =>
          obtain ⟨k, e⟩ := e
          refine ⟨_, _, (check_links_ok (m := (vl.length : Int)) ha).trans (by rw [show linksR a (vl.length : Int) = _ from el] <;> rfl), ?_⟩
          walk_at "wp"
          exact ⟨by rw [e0, ev]; dsimp only; rw [el]; rfl, rfl⟩
        | none =>
          refine ⟨_, _, (check_links_ok (m := (vl.length : Int)) ha).trans (by rw [show linksR a (vl.length : Int) = _ from el] <;> rfl), ?_⟩
          walk_at "wp"
          cases en : needR b with
          | some e =>
            obtain ⟨k, e⟩ := e
            refine ⟨_, _, (check_need_ok hb).trans (by rw [en] <;> rfl), ?_⟩
            walk_at "wp"
            exact ⟨by rw [e0, ev]; dsimp only; rw [el]; dsimp only; rw [en]; rfl, rfl⟩
          | none =>
            refine ⟨_, _, (check_need_ok hb).trans (by rw [en] <;> rfl), ?_⟩
            walk_at "wp"
            exact ⟨by rw [e0, ev]; dsimp only; rw [el]; dsimp only; rw [en]; rfl, rfl⟩
    | _ => cases h'
def ers : List Str := [("BadNet" : Str), "BadVotes", "BadLinks", "BadNeed", "TooMany"]
theorem badAs_in {k k' : Str} {d e : D} (h : badAs k d = some (k', e)) : k' = k ∧ e = d := by
  unfold badAs at h
  split at h
  · cases h
  · cases h; exact ⟨rfl, rfl⟩
theorem votesR_in {v : D} {k : Str} {e : D} (h : votesR v = some (k, e)) : k = "BadVotes" ∨ k = "TooMany" := by
  unfold votesR at h
  split at h
  · split at h
    · cases h; exact .inr rfl
    · exact .inl (badAs_in h).1
  · cases h; exact .inl rfl
theorem linksR_in {v : D} {m : Int} {k : Str} {e : D} (h : linksR v m = some (k, e)) : k = "BadLinks" := by
  unfold linksR at h
  split at h
  · exact (badAs_in h).1
  · cases h; rfl
theorem netR_in {d : D} {k : Str} {e : D} (h : netR d = some (k, e)) : k = "BadNet" ∨ k = "BadVotes" ∨ k = "TooMany" ∨ k = "BadLinks" ∨ k = "BadNeed" := by
  unfold netR at h
  split at h
  · split at h
    · rename_i e1 z
      cases h
      rcases votesR_in z with y | y
      · exact .inr (.inl y)
      · exact .inr (.inr (.inl y))
    · split at h
      · rename_i z
        cases h
        exact .inr (.inr (.inr (.inl (linksR_in z))))
      · unfold needR at h
        split at h
        · cases h
        · cases h
          exact .inr (.inr (.inr (.inr rfl)))
  · cases h; exact .inl rfl
theorem is_net_ok {d : D} {n : Nat} {c : HO} (hd : d.dok n = true) : f_is_net [d] c = some (.ok (.bl (netR d).isNone), c) := by
  refine brings_eq (brings_of rfl ?_)
  walk_at "wp"
  cases e : netR d with
  | none =>
    refine ⟨_, _, (made_net_ok hd).trans (by rw [e] <;> rfl), ?_⟩
    walk_at "wp"
    exact ⟨rfl, rfl⟩
  | some p =>
    obtain ⟨k, x⟩ := p
    have hk := netR_in e
    refine ⟨_, _, (made_net_ok hd).trans (by rw [e] <;> rfl), ?_⟩
    rcases hk with rfl | rfl | rfl | rfl | rfl
    all_goals
      walk_at "wp"
      exact ⟨rfl, rfl⟩
end Kx
end
section
set_option Elab.async false
set_option linter.all false
set_option maxRecDepth 100000
set_option maxHeartbeats 4000000
/-! The jar; what is no net. -/
namespace Kx
open PySem PySem.Spec PyProof.Rows L2 Fh
local macro_rules | `(tactic| walk_at "wp") => `(tactic| set_option smartUnfolding false in with_unfolding_all conv => whnf)
def f_take : Fnl := runDef lib no0 noH d_law_take
def f_whole : Fnl := runDef lib no0 noH d_law_is_whole
def JarQ (P : D → Prop) (r : Res) (c : HO) : Prop := ∃ d a b, r = .ok d ∧ c = J a b ∧ P d
theorem take_ok {a b t : Int} (ht : 0 < t) (hl : t.natAbs.log2 < 9000) : Brings f_take [.jar, .int t] (J a b) (JarQ fun d => ∃ i : Int, d = .int i ∧ 0 ≤ i ∧ i < t) := by
  have mo : ∀ x : Int, 0 ≤ x.fmod t ∧ x.fmod t < t := fun x => ⟨Int.fmod_nonneg_of_pos x ht, Int.fmod_lt_of_pos x ht⟩
  have htd : decide (t ≠ 0) = true := decide_eq_true (by omega)
  have sm : ∀ x : Int, mulOk (x.fmod 2147483647) (x.fmod 2147483647) = true := fun x => by
    have h1 := Int.fmod_nonneg_of_pos x (show (0 : Int) < 2147483647 by decide)
    have h2 := Int.fmod_lt_of_pos x (show (0 : Int) < 2147483647 by decide)
    unfold mulOk
    refine Bool.or_eq_true_iff.mpr (.inr (Bool.or_eq_true_iff.mpr (.inl (Bool.and_eq_true_iff.mpr ⟨decide_eq_true (by omega), decide_eq_true (by omega)⟩))))
  refine brings_of rfl ?_
  walk_at "wp"
  refine ⟨fun h => ?_, fun h => ?_⟩
  · walk_at "wp"
    refine ⟨htd, ?_⟩
    walk_at "wp"
    refine ⟨decide_eq_true ⟨ht, hl⟩, ?_⟩
    walk_at "wp"
    exact ⟨_, _, _, rfl, rfl, _, rfl, mo _⟩
  · walk_at "wp"
    refine ⟨Bool.or_eq_true_iff.mpr (.inr (Bool.or_eq_true_iff.mpr (.inr rfl))), ?_⟩
    walk_at "wp"
    refine ⟨rfl, ?_⟩
    walk_at "wp"
    refine ⟨sm _, ?_⟩
    walk_at "wp"
    refine ⟨rfl, ?_⟩
    walk_at "wp"
    refine ⟨rfl, ?_⟩
    walk_at "wp"
    refine ⟨htd, ?_⟩
    walk_at "wp"
    exact ⟨_, _, _, rfl, rfl, _, rfl, mo _⟩
def isI (d : D) : Bool := match d with
  | .int _ => true
  | _ => false
def isT (d : D) : Bool := match d with
  | .tup _ => true
  | _ => false
def isLs (d : D) : Bool := match d with
  | .lst _ => true
  | _ => false
def isB (d : D) : Bool := match d with
  | .bl _ => true
  | _ => false
def isS (d : D) : Bool := match d with
  | .str _ => true
  | _ => false
theorem kv_tuple {d : D} (h : plainD d = true) : (d.rooted && kitK d.ty "tuple") = true ∧ kitV d.ty "tuple" = isT d := by
  cases d with
  | jar => cases h
  | ob _ => cases h
  | scr _ => cases h
  | dct _ _ => cases h
  | _ => exact ⟨by kernel_rfl, by kernel_rfl⟩
theorem kv_list {d : D} (h : plainD d = true) : (d.rooted && kitK d.ty "list") = true ∧ kitV d.ty "list" = isLs d := by
  cases d with
  | jar => cases h
  | ob _ => cases h
  | scr _ => cases h
  | dct _ _ => cases h
  | _ => exact ⟨by kernel_rfl, by kernel_rfl⟩
theorem kv_str {d : D} (h : plainD d = true) : (d.rooted && kitK d.ty "str") = true ∧ kitV d.ty "str" = isS d := by
  cases d with
  | jar => cases h
  | ob _ => cases h
  | scr _ => cases h
  | dct _ _ => cases h
  | _ => exact ⟨by kernel_rfl, by kernel_rfl⟩
theorem kv_bool {d : D} (h : plainD d = true) : (d.rooted && kitK d.ty "bool") = true ∧ kitV d.ty "bool" = isB d := by
  cases d with
  | jar => cases h
  | ob _ => cases h
  | scr _ => cases h
  | dct _ _ => cases h
  | _ => exact ⟨by kernel_rfl, by kernel_rfl⟩
theorem kv_int {d : D} (h : plainD d = true) : (d.rooted && kitK d.ty "int") = true ∧ kitV d.ty "int" = (isI d || isB d) := by
  cases d with
  | jar => cases h
  | ob _ => cases h
  | scr _ => cases h
  | dct _ _ => cases h
  | _ => exact ⟨by kernel_rfl, by kernel_rfl⟩
theorem whole_ok {d : D} {c : HO} (hd : plainD d = true) : f_whole [d] c = some (.ok (.bl (isI d)), c) := by
  refine brings_eq (brings_of rfl ?_)
  walk_at "wp"
  refine ⟨(kv_int hd).1, ?_⟩
  walk_at "wp"
  refine ⟨fun h => ?_, fun h => ?_⟩
  · replace h : kitV d.ty "int" = true := h
    walk_at "wp"
    refine ⟨(kv_bool hd).1, ?_⟩
    walk_at "wp"
    refine ⟨?_, rfl⟩
    show Res.ok (.bl (!(kitV d.ty "bool"))) = _
    rw [(kv_bool hd).2]
    rw [(kv_int hd).2] at h
    cases d <;> first | rfl | (cases h; done) | cases hd
  · replace h : kitV d.ty "int" = false := h
    walk_at "wp"
    refine ⟨?_, rfl⟩
    rw [(kv_int hd).2] at h
    cases d <;> first | rfl | (cases h; done) | cases hd
end Kx
end
section
set_option Elab.async false
set_option linter.all false
set_option maxRecDepth 100000
set_option maxHeartbeats 4000000
/-! One of a list; what is a pair. -/
namespace Kx
open PySem PySem.Spec PyProof.Rows L2 Fh
local macro_rules | `(tactic| walk_at "wp") => `(tactic| set_option smartUnfolding false in with_unfolding_all conv => whnf)
theorem atI_of {l : List D} {k : Nat} {d : D} (h : l[k]? = some d) : atI l (k : Int) = some d := by
  have hk : k < l.length := (List.getElem?_eq_some_iff.mp h).1
  unfold atI ixN
  simp [hk]
  rw [← Option.some_inj, ← h]
  simp [hk]
theorem atV_of {l : List D} {k : Nat} {d : D} (h : l[k]? = some d) : (atI l (k : Int)).isSome = true ∧ atV l (k : Int) = d := by
  unfold atV
  rw [atI_of h]
  exact ⟨rfl, rfl⟩
theorem atV_in {l : List D} {i : Int} (h0 : 0 ≤ i) (h1 : i < l.length) : (atI l i).isSome = true ∧ atV l i ∈ l := by
  obtain ⟨k, rfl⟩ := Int.eq_ofNat_of_zero_le h0
  have hk : k < l.length := by omega
  have e : l[k]? = some l[k] := List.getElem?_eq_getElem hk
  rw [(atV_of e).2]
  exact ⟨(atV_of e).1, List.getElem_mem hk⟩
def tj := addS "_law_take" f_take no0
def f_one : Fnl := runDef lib tj noH d_law_one
def f_some : Fnl := runDef lib tj noH d_law_some
theorem log_small {t : Int} (h : t.natAbs < 2 ^ 100) : t.natAbs.log2 < 9000 := by
  by_cases z : t.natAbs = 0
  · rw [z]; decide
  · have := (Nat.log2_lt z).mpr h
    omega
theorem one_ok {a b : Int} {l : List D} (h0 : l ≠ []) (h1 : l.length < 2 ^ 100) : Brings f_one [.jar, .lst l] (J a b) (JarQ fun d => d ∈ l) := by
  have hl : 0 < l.length := List.length_pos_iff.mpr h0
  refine brings_of rfl ?_
  walk_at "wp"
  obtain ⟨r, c, e, i, a', b', rfl, rfl, j, rfl, h2, h3⟩ := take_ok (a := a) (b := b) (t := (l.length : Int)) (by omega) (log_small (by simpa using h1))
  refine ⟨_, _, e, ?_⟩
  walk_at "wp"
  obtain ⟨y1, y2⟩ := atV_in h2 h3
  refine ⟨y1, ?_⟩
  walk_at "wp"
  exact ⟨_, _, _, rfl, rfl, y2⟩
theorem some_ok {a b : Int} {l : List D} (h1 : l.length < 10000) : Brings f_some [.jar, .lst l] (J a b) (JarQ fun d => ∃ es, d = .lst es ∧ es.length ≤ l.length ∧ ∀ e ∈ es, e ∈ l) := by
  refine brings_of rfl ?_
  walk_at "wp"
  refine lst_g (I := fun es ds c => (∃ a b, c = J a b) ∧ es.length + ds.length ≤ l.length ∧ (∀ e ∈ es, e ∈ l) ∧ ∀ e ∈ ds, e ∈ l) ?_ ?_ ?_
  · exact ⟨⟨_, _, rfl⟩, by simp, by simp, fun e h => h⟩
  · rintro es d ds c ⟨⟨a, b, rfl⟩, z1, z2, z3⟩
    refine ⟨_, rfl, runs_of ?_⟩
    walk_at "wp"
    obtain ⟨r, c, e, i, a', b', rfl, rfl, j, rfl, h2, h3⟩ := take_ok (a := a) (b := b) (t := 2) (by omega) (by decide)
    refine ⟨_, _, e, ?_⟩
    walk_at "wp"
    walk_at "wp"
    refine ⟨fun h => runs_of ?_, fun h => ?_⟩
    · walk_at "wp"
      refine ⟨⟨_, _, rfl⟩, ?_, ?_, fun e h => z3 e (by simp [h])⟩
      · simp at z1 ⊢; omega
      · intro e h
        rcases List.mem_append.mp h with h | h
        · exact z2 e h
        · have : e = d := by simpa using h
          subst this
          exact z3 e (by simp)
    · refine ⟨⟨_, _, rfl⟩, ?_, z2, fun e h => z3 e (by simp [h])⟩
      simp at z1; omega
  · rintro es c ⟨⟨a, b, rfl⟩, z1, z2, z3⟩
    have y : es.length ≤ l.length := by simp at z1; omega
    walk_at "wp"
    refine ⟨decide_eq_true (Nat.lt_trans (Nat.lt_of_le_of_lt y h1) (by decide)), ?_⟩
    walk_at "wp"
    exact ⟨_, _, _, rfl, rfl, _, rfl, y, z2⟩
def tw := addS "_law_is_whole" f_whole no0
def f_is_pair : Fnl := runDef lib tw noH d_law_is_pair
theorem pairB_no {d : D} {m : Int} (h : asPair d = none) : pairB d m = false := by unfold pairB; rw [h]
theorem asPair_notT {d : D} (h : isT d = false) : asPair d = none := by
  cases d with
  | tup l => cases h
  | _ => rfl
theorem is_pair_ok {d : D} {m : Int} {n : Nat} {c : HO} (hd : d.dok n = true) : f_is_pair [d, .int m] c = some (.ok (.bl (pairB d m)), c) := by
  have hp := dok_plainD hd
  refine brings_eq (brings_of rfl ?_)
  walk_at "wp"
  refine ⟨(kv_tuple hp).1, ?_⟩
  walk_at "wp"
  refine ⟨fun h => ?_, fun h => ?_⟩
  · have h' : isT d = false := by
      rw [← (kv_tuple hp).2]
      simpa using h
    walk_at "wp"
    refine ⟨fun _ => ?_, fun h => (by cases h)⟩
    walk_at "wp"
    exact ⟨by rw [pairB_no (asPair_notT h')], rfl⟩
  · have h' : isT d = true := by
      rw [← (kv_tuple hp).2]
      simpa using h
    cases d with
    | tup l =>
      cases n with
      | zero => cases hd
      | succ n =>
      have hx := (dok_tup.mp hd).2
      walk_at "wp"
      refine ⟨fun g => ?_, fun g => ?_⟩
      · replace g : (!(decide ((l.length : Int) = 2))) = true := g
        have g' : ¬ l.length = 2 := by simp at g; omega
        walk_at "wp"
        refine ⟨fun _ => ?_, fun h => (by cases h)⟩
        walk_at "wp"
        refine ⟨?_, rfl⟩
        rw [pairB_no]
        unfold asPair
        split
        · rename_i e; cases e; exact (g' rfl).elim
        · rfl
      · replace g : (!(decide ((l.length : Int) = 2))) = false := g
        have g' : l.length = 2 := by simp at g; omega
        obtain ⟨x, y, rfl⟩ : ∃ x y, l = [x, y] := by
          match l, g' with
          | [x, y], _ => exact ⟨x, y, rfl⟩
        have px := dok_plainD (hx x (by simp))
        have py := dok_plainD (hx y (by simp))
        walk_at "wp"
        refine ⟨rfl, ?_⟩
        walk_at "wp"
        refine ⟨_, _, whole_ok (d := x) px, ?_⟩
        walk_at "wp"
        refine ⟨fun g1 => ?_, fun g1 => ?_⟩
        · replace g1 : (!(isI x)) = true := g1
          walk_at "wp"
          refine ⟨fun _ => ?_, fun h => (by cases h)⟩
          walk_at "wp"
          refine ⟨?_, rfl⟩
          rw [pairB_no]
          unfold asPair
          split
          · rename_i e; cases e; cases g1
          · rfl
        · replace g1 : (!(isI x)) = false := g1
          walk_at "wp"
          refine ⟨rfl, ?_⟩
          walk_at "wp"
          refine ⟨_, _, whole_ok (d := y) py, ?_⟩
          walk_at "wp"
          refine ⟨fun g2 => ?_, fun g2 => ?_⟩
          · replace g2 : (!(isI y)) = true := g2
            walk_at "wp"
            refine ⟨?_, rfl⟩
            rw [pairB_no]
            unfold asPair
            split
            · rename_i e; cases e; cases g2
            · rfl
          · replace g2 : (!(isI y)) = false := g2
            cases x with
            | int x =>
              cases y with
              | int y =>
                walk_at "wp"
                refine ⟨rfl, ?_⟩
                walk_at "wp"
                refine ⟨fun g3 => ?_, fun g3 => ?_⟩
                · replace g3 : decide (x ≥ 0) = true := g3
                  walk_at "wp"
                  refine ⟨rfl, ?_⟩
                  walk_at "wp"
                  refine ⟨rfl, ?_⟩
                  walk_at "wp"
                  refine ⟨fun g4 => ?_, fun g4 => ?_⟩
                  · replace g4 : decide (x < y) = true := g4
                    walk_at "wp"
                    refine ⟨rfl, ?_⟩
                    walk_at "wp"
                    refine ⟨?_, rfl⟩
                    show Res.ok (.bl (decide (y < m))) = Res.ok (.bl (okPair m x y))
                    have g3' : x ≥ 0 := of_decide_eq_true g3
                    have g4' : x < y := of_decide_eq_true g4
                    have e : okPair m x y = decide (y < m) := by
                      unfold okPair
                      rw [g3, g4, decide_eq_true (show y ≥ 0 by omega)]
                      by_cases z : y < m
                      · rw [decide_eq_true z, decide_eq_true (show x < m by omega)]; rfl
                      · rw [decide_eq_false z]; simp
                    rw [e]
                  · replace g4 : decide (x < y) = false := g4
                    walk_at "wp"
                    refine ⟨?_, rfl⟩
                    show Res.ok (.bl false) = Res.ok (.bl (okPair m x y))
                    unfold okPair
                    rw [g4]
                    simp
                · replace g3 : decide (x ≥ 0) = false := g3
                  walk_at "wp"
                  refine ⟨?_, rfl⟩
                  show Res.ok (.bl false) = Res.ok (.bl (okPair m x y))
                  unfold okPair
                  rw [g3]
                  simp
              | _ => cases g2
            | _ => cases g1
    | _ => cases h'
end Kx
end
section
set_option Elab.async false
set_option linter.all false
set_option maxRecDepth 100000
set_option maxHeartbeats 4000000
/-! What the law says of what is no net. -/
namespace Kx
open PySem PySem.Spec PyProof.Rows L2 Fh
local macro_rules | `(tactic| walk_at "wp") => `(tactic| set_option smartUnfolding false in with_unfolding_all conv => whnf)
def tp := addS "_law_is_pair" f_is_pair tw
def f_refusal : Fnl := runDef lib tp noH d_law_net_refusal
def refD (o : Option (Str × D)) : D := match o with
  | none => .non
  | some (k, e) => .tup [.str k, e]
def bads (p : D → Bool) : Nat → List D → List D
  | _, [] => []
  | k, d :: ds => if p d = true then bads p (k + 1) ds else .int k :: bads p (k + 1) ds
theorem bads_first (p : D → Bool) : ∀ (l : List D) (k : Nat), firstBad p k l = (match bads p k l with
    | [] => .non
    | d :: _ => d)
  | [], _ => rfl
  | d :: l, k => by
    unfold firstBad bads
    cases p d with
    | true => exact bads_first p l (k + 1)
    | false => rfl
theorem bads_len (p : D → Bool) : ∀ (l : List D) (k : Nat), (bads p k l).length ≤ l.length
  | [], _ => Nat.le_refl _
  | d :: l, k => by
    unfold bads
    have := bads_len p l (k + 1)
    cases p d with
    | true => simp; omega
    | false => simp; omega
theorem bads_int (p : D → Bool) : ∀ (l : List D) (k : Nat), ∀ d ∈ bads p k l, ∃ i, d = .int i
  | [], _, d, h => by cases h
  | e :: l, k, d, h => by
    unfold bads at h
    cases z : p e with
    | true => rw [z] at h; exact bads_int p l _ d h
    | false =>
      rw [z] at h
      rcases List.mem_cons.mp h with h | h
      · exact ⟨_, h⟩
      · exact bads_int p l _ d h
theorem drop_cons {l : List D} {k : Nat} {e : D} {r : List D} (h : l.drop k = e :: r) : l[k]? = some e ∧ l.drop (k + 1) = r := by
  constructor
  · have : (l.drop k)[0]? = some e := by rw [h]; rfl
    simpa using this
  · have : (l.drop k).drop 1 = r := by rw [h]; rfl
    simpa [List.drop_drop] using this
theorem leP_first {m a b : Int} (h : okPair m a b = true) : leP a b (-1) (-1) = false := by
  unfold okPair at h
  have h1 := (Bool.and_eq_true_iff.mp (Bool.and_eq_true_iff.mp (Bool.and_eq_true_iff.mp h).1).1).1
  have h2 : a ≥ 0 := of_decide_eq_true h1
  unfold leP
  rw [decide_eq_false (show ¬ a = -1 by omega), decide_eq_false (show ¬ a ≤ -1 by omega)]
  rfl
theorem rng_cons {k n : Nat} : rng (k : Int) 1 (n + 1) = .int k :: rng ((k + 1 : Nat) : Int) 1 n := rfl
theorem isT_tup {d : D} (h : isT d = true) : ∃ l, d = .tup l := by
  cases d with
  | tup l => exact ⟨l, rfl⟩
  | _ => cases h
theorem bnd_of {i : Int} (h0 : -10000000 ≤ i) (h : i ≤ 10000000) : bnd i = true := Bool.and_eq_true_iff.mpr ⟨decide_eq_true (by omega), decide_eq_true (by omega)⟩
theorem refusal_ok {d : D} {n : Nat} {c : HO} (hd : d.dok n = true) (hn : n ≤ 60) : f_refusal [d] c = some (.ok (refD (netR d)), c) := by
  have hp := dok_plainD hd
  refine brings_eq (brings_of rfl ?_)
  walk_at "wp"
  refine ⟨(kv_tuple hp).1, ?_⟩
  walk_at "wp"
  refine ⟨fun h => ?_, fun h => ?_⟩
  · have h' : isT d = false := by
      rw [← (kv_tuple hp).2]
      simpa using h
    walk_at "wp"
    refine ⟨fun _ => ?_, fun h => (by cases h)⟩
    walk_at "wp"
    have e : netR d = some (("BadNet" : Str), D.int (-1)) := notTup3 (by cases d <;> first | rfl | cases h')
    exact ⟨by rw [e] <;> rfl, rfl⟩
  · have h' : isT d = true := by
      rw [← (kv_tuple hp).2]
      simpa using h
    obtain ⟨l, rfl⟩ := isT_tup h'
    cases n with
    | zero => cases hd
    | succ n =>
    have hx := (dok_tup.mp hd).2
    walk_at "wp"
    refine ⟨fun g => ?_, fun g => ?_⟩
    · replace g : (!(decide ((l.length : Int) = 3))) = true := g
      have g' : ¬ l.length = 3 := by simp at g; omega
      walk_at "wp"
      have e : netR (.tup l) = some (("BadNet" : Str), D.int (-1)) := notTup3 (decide_eq_false g')
      exact ⟨by rw [e] <;> rfl, rfl⟩
    · replace g : (!(decide ((l.length : Int) = 3))) = false := g
      have g' : l.length = 3 := by simp at g; omega
      obtain ⟨v, a, b, rfl⟩ : ∃ v a b, l = [v, a, b] := by
        match l, g' with
        | [v, a, b], _ => exact ⟨v, a, b, rfl⟩
      have hv := hx v (by simp)
      have ha := hx a (by simp)
      have hb := hx b (by simp)
      have e0 : netR (.tup [v, a, b]) = (match votesR v with
        | some e => some e
        | none => match linksR a (lenI v) with
          | some e => some e
          | none => needR b) := rfl
      walk_at "wp"
      refine ⟨(kv_tuple (dok_plainD hv)).1, ?_⟩
      walk_at "wp"
      refine ⟨fun h1 => ?_, fun h1 => ?_⟩
      · replace h1 : (!(kitV v.ty "tuple")) = true := h1
        rw [(kv_tuple (dok_plainD hv)).2] at h1
        walk_at "wp"
        have e : votesR v = some (("BadVotes" : Str), D.int (-1)) := by cases v <;> first | rfl | cases h1
        exact ⟨by rw [e0, e] <;> rfl, rfl⟩
      · replace h1 : (!(kitV v.ty "tuple")) = false := h1
        rw [(kv_tuple (dok_plainD hv)).2] at h1
        obtain ⟨vs, rfl⟩ := isT_tup (by simpa using h1)
        cases n with
        | zero => cases hv
        | succ n =>
        have hvs := (dok_tup.mp hv).2
        have hvl := (dok_tup.mp hv).1
        walk_at "wp"
        refine ⟨fun h2 => ?_, fun h2 => ?_⟩
        · replace h2 : decide ((vs.length : Int) > 40) = true := h2
          walk_at "wp"
          have e : votesR (.tup vs) = some (("TooMany" : Str), D.int vs.length) := by
            unfold votesR
            dsimp only
            rw [h2]
            rfl
          exact ⟨by rw [e0, e] <;> rfl, rfl⟩
        · replace h2 : decide ((vs.length : Int) > 40) = false := h2
          have h2' : vs.length ≤ 40 := by have := of_decide_eq_false h2; omega
          have e1 : votesR (.tup vs) = badAs "BadVotes" (firstBad (fun d => geI d 0) 0 vs) := by
            unfold votesR
            dsimp only
            rw [h2]
            rfl
          walk_at "wp"
          refine ⟨bnd_of (by omega) (by omega), ?_⟩
          walk_at "wp"
          refine lst_g (I := fun es ds c' => c' = c ∧ ∃ k rest, vs.drop k = rest ∧ ds = rng (k : Int) 1 rest.length ∧ es ++ bads (fun d => geI d 0) k rest = bads (fun d => geI d 0) 0 vs) ?_ ?_ ?_
          · refine ⟨rfl, 0, vs, rfl, ?_, rfl⟩
            rfl
          · rintro es d ds c' ⟨rfl, k, rest, hk, hds, hes⟩
            cases rest with
            | nil => cases hds
            | cons e rest =>
            obtain ⟨hk1, hk2⟩ := drop_cons hk
            have he := hvs e (List.mem_of_getElem? hk1)
            cases hds
            refine ⟨_, rfl, runs_of ?_⟩
            obtain ⟨y1, y2⟩ := atV_of hk1
            walk_at "wp"
            refine ⟨y1, ?_⟩
            walk_at "wp"
            refine ⟨_, _, whole_ok (d := atV vs (k : Int)) (by rw [y2]; exact dok_plainD he), ?_⟩
            rw [y2]
            walk_at "wp"
            refine ⟨fun h3 => ?_, fun h3 => ?_⟩
            · replace h3 : (!(isI e)) = true := h3
              walk_at "wp"
              refine ⟨fun _ => runs_of ?_, fun z => (by cases z)⟩
              walk_at "wp"
              refine ⟨rfl, k + 1, rest, hk2, rfl, ?_⟩
              rw [← hes]
              have ez : geI e 0 = false := by cases e <;> first | rfl | cases h3
              show (es ++ [.int (k : Int)]) ++ bads (fun d => geI d 0) (k + 1) rest = es ++ (if geI e 0 = true then _ else .int k :: bads (fun d => geI d 0) (k + 1) rest)
              rw [ez]
              simp
            · replace h3 : (!(isI e)) = false := h3
              cases e with
              | int i =>
                walk_at "wp"
                refine ⟨y1, ?_⟩
                rw [y2]
                walk_at "wp"
                refine ⟨fun h4 => runs_of ?_, fun h4 => ?_⟩
                · replace h4 : decide (i < 0) = true := h4
                  walk_at "wp"
                  refine ⟨rfl, k + 1, rest, hk2, rfl, ?_⟩
                  rw [← hes]
                  have ez : geI (.int i) 0 = false := decide_eq_false (by have := of_decide_eq_true h4; omega)
                  show (es ++ [.int (k : Int)]) ++ bads (fun d => geI d 0) (k + 1) rest = es ++ (if geI (.int i) 0 = true then _ else .int k :: bads (fun d => geI d 0) (k + 1) rest)
                  rw [ez]
                  simp
                · replace h4 : decide (i < 0) = false := h4
                  refine ⟨rfl, k + 1, rest, hk2, rfl, ?_⟩
                  rw [← hes]
                  have ez : geI (.int i) 0 = true := decide_eq_true (by have := of_decide_eq_false h4; omega)
                  show es ++ bads (fun d => geI d 0) (k + 1) rest = es ++ (if geI (.int i) 0 = true then bads (fun d => geI d 0) (k + 1) rest else _)
                  rw [ez]
                  rfl
              | _ => cases h3
          · rintro es c' ⟨rfl, k, rest, hk, hds, hes⟩
            have er : rest = [] := by
              cases rest with
              | nil => rfl
              | cons _ _ => cases hds
            subst er
            have hes' : es = bads (fun d => geI d 0) 0 vs := by rw [← hes]; simp [bads]
            have hle : es.length ≤ 40 := by rw [hes']; exact Nat.le_trans (bads_len _ _ _) h2'
            have eok : (D.lst es).dok 1 = true := dok_lst.mpr ⟨by omega, fun d z => by
              rw [hes'] at z
              obtain ⟨i, rfl⟩ := bads_int _ _ _ _ z
              rfl⟩
            walk_at "wp"
            refine ⟨decide_eq_true (Nat.lt_of_le_of_lt hle (by decide)), ?_⟩
            walk_at "wp"
            refine ⟨Bool.and_eq_true_iff.mpr ⟨dok_eqs eok (by omega), rfl⟩, ?_⟩
            walk_at "wp"
            have e2 := bads_first (fun d => geI d 0) vs 0
            rw [← hes'] at e2
            cases es with
            | cons e es =>
              refine ⟨fun _ => ?_, fun z => (by cases z)⟩
              walk_at "wp"
              obtain ⟨i, rfl⟩ := bads_int _ _ _ e (by rw [← hes']; simp)
              have ea := atV_of (l := .int i :: es) (k := 0) rfl
              refine ⟨ea.1, ?_⟩
              walk_at "wp"
              refine ⟨?_, rfl⟩
              show Res.ok (.tup [.str "BadVotes", atV (.int i :: es) ((0 : Nat) : Int)]) = _
              rw [e0, e1, e2, ea.2]
              rfl
            | nil =>
              refine ⟨fun z => (by cases z), fun _ => ?_⟩
              have ev : votesR (.tup vs) = none := by rw [e1, e2]; rfl
              walk_at "wp"
              refine ⟨(kv_tuple (dok_plainD ha)).1, ?_⟩
              walk_at "wp"
              refine ⟨fun h3 => ?_, fun h3 => ?_⟩
              · replace h3 : (!(kitV a.ty "tuple")) = true := h3
                rw [(kv_tuple (dok_plainD ha)).2] at h3
                walk_at "wp"
                have e : linksR a (lenI (.tup vs)) = some (("BadLinks" : Str), D.int (-1)) := by cases a <;> first | rfl | cases h3
                exact ⟨by rw [e0, ev]; dsimp only; rw [e] <;> rfl, rfl⟩
              · replace h3 : (!(kitV a.ty "tuple")) = false := h3
                rw [(kv_tuple (dok_plainD ha)).2] at h3
                obtain ⟨ls, rfl⟩ := isT_tup (by simpa using h3)
                have hls := (dok_tup.mp ha).2
                have hll := (dok_tup.mp ha).1
                have el : linksR (.tup ls) (lenI (.tup vs)) = badAs "BadLinks" (badPair vs.length (-1) (-1) 0 ls) := rfl
                walk_at "wp"
                refine ⟨bnd_of (by omega) (by omega), ?_⟩
                walk_at "wp"
                refine loop_g (fun es ρ c2 => c2 = c' ∧ ∃ (k : Nat) (rest : List D) (x y : Int), (∃ u, ρ = [some (.fr (.tup [.tup vs, .tup ls, b])), some (.ow []), u, some (.fr (.tup vs)), some (.fr (.tup ls)), some (.fr b), none]) ∧ ls.drop k = rest ∧ es = rng (k : Int) 1 rest.length ∧ badPair vs.length (-1) (-1) 0 ls = badPair vs.length x y k rest ∧
                  ((k = 0 ∧ x = -1 ∧ y = -1) ∨ ∃ k', k = k' + 1 ∧ ls[k']? = some (.tup [.int x, .int y]))) ?_ ?_ ?_
                · exact ⟨rfl, 0, ls, -1, -1, ⟨_, rfl⟩, rfl, rfl, rfl, .inl ⟨rfl, rfl, rfl⟩⟩
                · rintro d es ρ c2 ⟨rfl, k, rest, x, y, ⟨u, rfl⟩, hk, hds, hb2, hxy⟩
                  cases rest with
                  | nil => cases hds
                  | cons e rest =>
                  obtain ⟨hk1, hk2⟩ := drop_cons hk
                  have he := hls e (List.mem_of_getElem? hk1)
                  have hkl : k < ls.length := (List.getElem?_eq_some_iff.mp hk1).1
                  cases hds
                  refine ⟨_, rfl, ?_⟩
                  obtain ⟨y1, y2⟩ := atV_of hk1
                  walk_at "wp"
                  refine ⟨y1, ?_⟩
                  walk_at "wp"
                  refine ⟨_, _, is_pair_ok (d := atV ls (k : Int)) (m := (vs.length : Int)) (by rw [y2]; exact he), ?_⟩
                  rw [y2]
                  walk_at "wp"
                  refine ⟨fun h4 => ?_, fun h4 => ?_⟩
                  · replace h4 : (!(pairB e vs.length)) = true := h4
                    walk_at "wp"
                    refine ⟨fun _ => ?_, fun z => (by cases z)⟩
                    walk_at "wp"
                    refine ⟨?_, rfl⟩
                    have ez : badPair vs.length x y k (e :: rest) = .int k := by
                      unfold badPair
                      unfold pairB at h4
                      split
                      · rename_i a b e3
                        rw [e3] at h4
                        rw [if_neg (by simp at h4; simp [h4])]
                      · rfl
                    rw [e0, ev]
                    dsimp only
                    rw [el, hb2, ez]
                    rfl
                  · replace h4 : (!(pairB e vs.length)) = false := h4
                    have h4' : pairB e vs.length = true := by simpa using h4
                    unfold pairB at h4'
                    cases e3 : asPair e with
                    | none => rw [e3] at h4'; cases h4'
                    | some p =>
                      obtain ⟨p, q⟩ := p
                      rw [e3] at h4'
                      dsimp only at h4'
                      have e4 := asPair_ok e3
                      subst e4
                      walk_at "wp"
                      refine ⟨fun h5 => ?_, fun h5 => ?_⟩
                      · replace h5 : decide ((k : Int) > 0) = true := h5
                        have h5' : k > 0 := by have := of_decide_eq_true h5; omega
                        rcases hxy with ⟨z, _, _⟩ | ⟨k', rfl, hk'⟩
                        · omega
                        obtain ⟨w1, w2⟩ := atV_of hk'
                        have kk : ((k' + 1 : Nat) : Int) - 1 = (k' : Int) := by omega
                        have w1' : (atI ls (((k' + 1 : Nat) : Int) - 1)).isSome = true := by rw [kk]; exact w1
                        have w2' : atV ls (((k' + 1 : Nat) : Int) - 1) = .tup [.int x, .int y] := by rw [kk]; exact w2
                        walk_at "wp"
                        refine ⟨y1, ?_⟩
                        rw [y2]
                        walk_at "wp"
                        refine ⟨w1', ?_⟩
                        rw [w2']
                        walk_at "wp"
                        refine ⟨fun h7 => ?_, fun h7 => ?_⟩
                        · replace h7 : leP p q x y = true := h7
                          walk_at "wp"
                          refine ⟨?_, rfl⟩
                          have ez : badPair vs.length x y (k' + 1) (.tup [.int p, .int q] :: rest) = .int ((k' + 1 : Nat) : Int) := by
                            show (if (okPair vs.length p q && !leP p q x y) = true then _ else D.int ((k' + 1 : Nat) : Int)) = _
                            rw [h7, h4']
                            rfl
                          rw [e0, ev]
                          dsimp only
                          rw [el, hb2, ez]
                          rfl
                        · replace h7 : leP p q x y = false := h7
                          walk_at "wp"
                          refine ⟨rfl, k' + 1 + 1, rest, p, q, ⟨_, rfl⟩, hk2, rfl, ?_, .inr ⟨k' + 1, rfl, hk1⟩⟩
                          rw [hb2]
                          show (if (okPair vs.length p q && !leP p q x y) = true then badPair vs.length p q (k' + 1 + 1) rest else D.int ((k' + 1 : Nat) : Int)) = _
                          rw [h7, h4']
                          rfl
                      · replace h5 : decide ((k : Int) > 0) = false := h5
                        have h5' : k = 0 := by have := of_decide_eq_false h5; omega
                        rcases hxy with ⟨_, rfl, rfl⟩ | ⟨k', rfl, hk'⟩
                        · walk_at "wp"
                          refine ⟨fun z => (by cases z), fun _ => ?_⟩
                          walk_at "wp"
                          refine ⟨rfl, k + 1, rest, p, q, ⟨_, rfl⟩, hk2, rfl, ?_, .inr ⟨k, rfl, hk1⟩⟩
                          rw [hb2]
                          show (if (okPair vs.length p q && !leP p q (-1) (-1)) = true then badPair vs.length p q (k + 1) rest else D.int (k : Int)) = _
                          rw [leP_first h4', h4']
                          rfl
                        · omega
                · rintro ρ c2 ⟨rfl, k, rest, x, y, ⟨u, rfl⟩, hk, hds, hb2, hxy⟩
                  have er : rest = [] := by
                    cases rest with
                    | nil => rfl
                    | cons _ _ => cases hds
                  subst er
                  have el2 : linksR (.tup ls) (lenI (.tup vs)) = none := by rw [el, hb2]; rfl
                  have e6 : netR (.tup [.tup vs, .tup ls, b]) = needR b := by rw [e0, ev]; dsimp only; rw [el2]
                  walk_at "wp"
                  refine ⟨_, _, whole_ok (d := b) (dok_plainD hb), ?_⟩
                  walk_at "wp"
                  refine ⟨fun h6 => ?_, fun h6 => ?_⟩
                  · replace h6 : isI b = true := h6
                    cases b with
                    | int i =>
                      walk_at "wp"
                      refine ⟨fun h7 => ?_, fun h7 => ?_⟩
                      · replace h7 : decide (i > 0) = true := h7
                        walk_at "wp"
                        refine ⟨?_, rfl⟩
                        have ez : geI (.int i) 1 = true := decide_eq_true (by have := of_decide_eq_true h7; omega)
                        rw [e6]
                        unfold needR
                        rw [ez]
                        rfl
                      · replace h7 : decide (i > 0) = false := h7
                        walk_at "wp"
                        refine ⟨?_, rfl⟩
                        have ez : geI (.int i) 1 = false := decide_eq_false (by have := of_decide_eq_false h7; omega)
                        rw [e6]
                        unfold needR
                        rw [ez]
                        rfl
                    | _ => cases h6
                  · replace h6 : isI b = false := h6
                    walk_at "wp"
                    refine ⟨fun z => (by cases z), fun _ => ?_⟩
                    walk_at "wp"
                    refine ⟨?_, rfl⟩
                    have ez : geI b 1 = false := by cases b <;> first | rfl | cases h6
                    rw [e6]
                    unfold needR
                    rw [ez]
                    rfl
end Kx
end
section
set_option Elab.async false
set_option linter.all false
set_option maxRecDepth 100000
set_option maxHeartbeats 4000000
/-! The same is the same. -/
namespace Kx
open PySem PySem.Spec PyProof.Rows L2 Fh
local macro_rules | `(tactic| walk_at "wp") => `(tactic| set_option smartUnfolding false in with_unfolding_all conv => whnf)
def f_sameT (t : Str → Option Fnl) : Fnl := runDef lib t noH d_law_same
def f_same : Nat → Fnl
  | 0 => f_sameT tw
  | n + 1 => f_sameT (addS "_law_same" (f_same n) tw)
/-- the table with whatever stands for the def itself -/
def tS (g : Option Fnl) : Str → Option Fnl := match g with
  | none => tw
  | some g => addS "_law_same" g tw
theorem isB_no {d : D} (h : isB d = false) (hp : plainD d = true) : kitV d.ty "bool" = false := by rw [(kv_bool hp).2, h]
theorem same_leaf {d : D} {c : HO} {g : Fnl} (hd : d.dok 0 = true) : ∀ t, (t = tw ∨ t = addS "_law_same" g tw) → f_sameT t [d, d] c = some (.ok (.bl true), c) := by
  intro t ht
  have hp := dok_plainD hd
  have eq0 := dok_eqs hd (by omega)
  rcases ht with rfl | rfl
  all_goals
    refine brings_eq (brings_of rfl ?_)
    cases d with
    | tup l => cases hd
    | lst l => cases hd
    | jar => cases hd
    | ob _ => cases hd
    | scr _ => cases hd
    | dct _ _ => cases hd
    | non =>
      walk_at "wp"
      refine ⟨fun _ => ?_, fun z => (by cases z)⟩
      walk_at "wp"
      exact ⟨rfl, rfl⟩
    | bl b =>
      walk_at "wp"
      refine ⟨fun z => (by cases z), fun _ => ?_⟩
      walk_at "wp"
      refine ⟨(kv_bool hp).1, ?_⟩
      walk_at "wp"
      refine ⟨fun _ => ?_, fun z => ?_⟩
      · walk_at "wp"
        cases b with
        | true =>
          refine ⟨fun _ => ?_, fun z => (by cases z)⟩
          walk_at "wp"
          exact ⟨rfl, rfl⟩
        | false =>
          refine ⟨fun z => (by cases z), fun _ => ?_⟩
          walk_at "wp"
          exact ⟨rfl, rfl⟩
      · replace z : kitV (D.bl b).ty "bool" = false := z
        rw [(kv_bool hp).2] at z
        cases z
    | int i =>
      walk_at "wp"
      refine ⟨fun z => (by cases z), fun _ => ?_⟩
      walk_at "wp"
      refine ⟨(kv_bool hp).1, ?_⟩
      walk_at "wp"
      refine ⟨fun z => ?_, fun _ => ?_⟩
      · replace z : kitV (D.int i).ty "bool" = true := z
        rw [(kv_bool hp).2] at z
        cases z
      walk_at "wp"
      refine ⟨(kv_int hp).1, ?_⟩
      walk_at "wp"
      refine ⟨fun _ => ?_, fun z => ?_⟩
      · walk_at "wp"
        refine ⟨_, _, whole_ok hp, ?_⟩
        walk_at "wp"
        refine ⟨fun _ => ?_, fun z => (by cases z)⟩
        walk_at "wp"
        refine ⟨?_, rfl⟩
        show Res.ok (.bl (decide (i = i))) = _
        rw [decide_eq_true rfl]
      · replace z : kitV (D.int i).ty "int" = false := z
        rw [(kv_int hp).2] at z
        cases z
    | str s =>
      walk_at "wp"
      refine ⟨fun z => (by cases z), fun _ => ?_⟩
      walk_at "wp"
      refine ⟨(kv_bool hp).1, ?_⟩
      walk_at "wp"
      refine ⟨fun z => ?_, fun _ => ?_⟩
      · replace z : kitV (D.str s).ty "bool" = true := z
        rw [(kv_bool hp).2] at z
        cases z
      walk_at "wp"
      refine ⟨(kv_int hp).1, ?_⟩
      walk_at "wp"
      refine ⟨fun z => ?_, fun _ => ?_⟩
      · replace z : kitV (D.str s).ty "int" = true := z
        rw [(kv_int hp).2] at z
        cases z
      walk_at "wp"
      refine ⟨(kv_str hp).1, ?_⟩
      walk_at "wp"
      refine ⟨fun _ => ?_, fun z => ?_⟩
      · walk_at "wp"
        refine ⟨(kv_str hp).1, ?_⟩
        walk_at "wp"
        refine ⟨fun _ => ?_, fun z => ?_⟩
        · walk_at "wp"
          refine ⟨Bool.and_eq_true_iff.mpr ⟨eq0, eq0⟩, ?_⟩
          walk_at "wp"
          refine ⟨?_, rfl⟩
          have e : PyData.eqv (D.str s).py (D.str s).py = true := by
            show decide (s = s) = true
            exact decide_eq_true rfl
          show Res.ok (.bl (PyData.eqv (D.str s).py (D.str s).py)) = _
          rw [e]
        · replace z : kitV (D.str s).ty "str" = false := z
          rw [(kv_str hp).2] at z
          cases z
      · replace z : kitV (D.str s).ty "str" = false := z
        rw [(kv_str hp).2] at z
        cases z
theorem same_tup {l : List D} {c : HO} {g : Fnl} (hp : plainD (.tup l) = true) (hl : l.length ≤ 1000000) (hg : ∀ e ∈ l, g [e, e] c = some (.ok (.bl true), c)) : f_sameT (addS "_law_same" g tw) [.tup l, .tup l] c = some (.ok (.bl true), c) := by
  refine brings_eq (brings_of rfl ?_)
  · walk_at "wp"
    refine ⟨fun z => (by cases z), fun _ => ?_⟩
    walk_at "wp"
    refine ⟨(kv_bool hp).1, ?_⟩
    walk_at "wp"
    refine ⟨fun z => ?_, fun _ => ?_⟩
    · replace z : kitV (D.tup l).ty "bool" = true := z
      rw [(kv_bool hp).2] at z
      cases z
    walk_at "wp"
    refine ⟨(kv_int hp).1, ?_⟩
    walk_at "wp"
    refine ⟨fun z => ?_, fun _ => ?_⟩
    · replace z : kitV (D.tup l).ty "int" = true := z
      rw [(kv_int hp).2] at z
      cases z
    walk_at "wp"
    refine ⟨(kv_str hp).1, ?_⟩
    walk_at "wp"
    refine ⟨fun z => ?_, fun _ => ?_⟩
    · replace z : kitV (D.tup l).ty "str" = true := z
      rw [(kv_str hp).2] at z
      cases z
    walk_at "wp"
    refine ⟨(kv_tuple hp).1, ?_⟩
    walk_at "wp"
    refine ⟨fun _ => ?_, fun z => ?_⟩
    rotate_left
    · replace z : kitV (D.tup l).ty "tuple" = false := z
      rw [(kv_tuple hp).2] at z
      cases z
    walk_at "wp"
    refine ⟨(kv_tuple hp).1, ?_⟩
    walk_at "wp"
    refine ⟨fun z => ?_, fun _ => ?_⟩
    · replace z : (!(kitV (D.tup l).ty "tuple")) = true := z
      rw [(kv_tuple hp).2] at z
      cases z
    walk_at "wp"
    refine ⟨(kv_list hp).1, ?_⟩
    walk_at "wp"
    refine ⟨fun z => ?_, fun _ => ?_⟩
    · replace z : kitV (D.tup l).ty "list" = true := z
      rw [(kv_list hp).2] at z
      cases z
    walk_at "wp"
    refine ⟨fun z => (by cases z), fun _ => ?_⟩
    walk_at "wp"
    refine ⟨fun z => ?_, fun _ => ?_⟩
    · replace z : (!(decide ((l.length : Int) = (l.length : Int)))) = true := z
      rw [decide_eq_true rfl] at z
      cases z
    walk_at "wp"
    refine ⟨bnd_of (by omega) (by omega), ?_⟩
    walk_at "wp"
    refine loop_g (fun es ρ c2 => c2 = c ∧ ∃ (k : Nat) (rest : List D), (∃ u, ρ = [some (.fr (.tup l)), some (.fr (.tup l)), u]) ∧ l.drop k = rest ∧ es = rng (k : Int) 1 rest.length) ?_ ?_ ?_
    · exact ⟨rfl, 0, l, ⟨_, rfl⟩, rfl, rfl⟩
    · rintro d es ρ c2 ⟨rfl, k, rest, ⟨u, rfl⟩, hk, hds⟩
      cases rest with
      | nil => cases hds
      | cons e rest =>
      obtain ⟨hk1, hk2⟩ := drop_cons hk
      obtain ⟨y1, y2⟩ := atV_of hk1
      cases hds
      refine ⟨_, rfl, ?_⟩
      walk_at "wp"
      refine ⟨y1, ?_⟩
      walk_at "wp"
      refine ⟨y1, ?_⟩
      walk_at "wp"
      refine ⟨_, _, (show g [atV l (k : Int), atV l (k : Int)] c2 = some (.ok (.bl true), c2) from by rw [y2]; exact hg e (List.mem_of_getElem? hk1)), ?_⟩
      walk_at "wp"
      refine ⟨fun z => (by cases z), fun _ => ?_⟩
      walk_at "wp"
      exact ⟨rfl, k + 1, rest, ⟨_, rfl⟩, hk2, rfl⟩
    · rintro ρ c2 ⟨rfl, k, rest, ⟨u, rfl⟩, hk, hds⟩
      walk_at "wp"
      exact ⟨rfl, rfl⟩
theorem same_lst {l : List D} {c : HO} {g : Fnl} (hp : plainD (.lst l) = true) (hl : l.length ≤ 1000000) (hg : ∀ e ∈ l, g [e, e] c = some (.ok (.bl true), c)) : f_sameT (addS "_law_same" g tw) [.lst l, .lst l] c = some (.ok (.bl true), c) := by
  refine brings_eq (brings_of rfl ?_)
  · walk_at "wp"
    refine ⟨fun z => (by cases z), fun _ => ?_⟩
    walk_at "wp"
    refine ⟨(kv_bool hp).1, ?_⟩
    walk_at "wp"
    refine ⟨fun z => ?_, fun _ => ?_⟩
    · replace z : kitV (D.lst l).ty "bool" = true := z
      rw [(kv_bool hp).2] at z
      cases z
    walk_at "wp"
    refine ⟨(kv_int hp).1, ?_⟩
    walk_at "wp"
    refine ⟨fun z => ?_, fun _ => ?_⟩
    · replace z : kitV (D.lst l).ty "int" = true := z
      rw [(kv_int hp).2] at z
      cases z
    walk_at "wp"
    refine ⟨(kv_str hp).1, ?_⟩
    walk_at "wp"
    refine ⟨fun z => ?_, fun _ => ?_⟩
    · replace z : kitV (D.lst l).ty "str" = true := z
      rw [(kv_str hp).2] at z
      cases z
    walk_at "wp"
    refine ⟨(kv_tuple hp).1, ?_⟩
    walk_at "wp"
    refine ⟨fun z => ?_, fun _ => ?_⟩
    · replace z : kitV (D.lst l).ty "tuple" = true := z
      rw [(kv_tuple hp).2] at z
      cases z
    walk_at "wp"
    refine ⟨fun z => (by cases z), fun _ => ?_⟩
    walk_at "wp"
    refine ⟨(kv_list hp).1, ?_⟩
    walk_at "wp"
    refine ⟨fun _ => ?_, fun z => ?_⟩
    rotate_left
    · replace z : kitV (D.lst l).ty "list" = false := z
      rw [(kv_list hp).2] at z
      cases z
    walk_at "wp"
    refine ⟨(kv_list hp).1, ?_⟩
    walk_at "wp"
    refine ⟨fun z => ?_, fun _ => ?_⟩
    · replace z : (!(kitV (D.lst l).ty "list")) = true := z
      rw [(kv_list hp).2] at z
      cases z
    walk_at "wp"
    refine ⟨fun z => ?_, fun _ => ?_⟩
    · replace z : (!(decide ((l.length : Int) = (l.length : Int)))) = true := z
      rw [decide_eq_true rfl] at z
      cases z
    walk_at "wp"
    refine ⟨bnd_of (by omega) (by omega), ?_⟩
    walk_at "wp"
    refine loop_g (fun es ρ c2 => c2 = c ∧ ∃ (k : Nat) (rest : List D), (∃ u, ρ = [some (.fr (.lst l)), some (.fr (.lst l)), u]) ∧ l.drop k = rest ∧ es = rng (k : Int) 1 rest.length) ?_ ?_ ?_
    · exact ⟨rfl, 0, l, ⟨_, rfl⟩, rfl, rfl⟩
    · rintro d es ρ c2 ⟨rfl, k, rest, ⟨u, rfl⟩, hk, hds⟩
      cases rest with
      | nil => cases hds
      | cons e rest =>
      obtain ⟨hk1, hk2⟩ := drop_cons hk
      obtain ⟨y1, y2⟩ := atV_of hk1
      cases hds
      refine ⟨_, rfl, ?_⟩
      walk_at "wp"
      refine ⟨y1, ?_⟩
      walk_at "wp"
      refine ⟨y1, ?_⟩
      walk_at "wp"
      refine ⟨_, _, (show g [atV l (k : Int), atV l (k : Int)] c2 = some (.ok (.bl true), c2) from by rw [y2]; exact hg e (List.mem_of_getElem? hk1)), ?_⟩
      walk_at "wp"
      refine ⟨fun z => (by cases z), fun _ => ?_⟩
      walk_at "wp"
      exact ⟨rfl, k + 1, rest, ⟨_, rfl⟩, hk2, rfl⟩
    · rintro ρ c2 ⟨rfl, k, rest, ⟨u, rfl⟩, hk, hds⟩
      walk_at "wp"
      exact ⟨rfl, rfl⟩
theorem same_ok : ∀ {n : Nat} {d : D} {c : HO}, d.dok n = true → f_same n [d, d] c = some (.ok (.bl true), c)
  | 0, d, c, h => same_leaf (g := fun _ _ => none) h tw (.inl rfl)
  | n + 1, d, c, h => by
    have hp := dok_plainD h
    by_cases h0 : d.dok 0 = true
    · exact same_leaf (g := f_same n) h0 _ (.inr rfl)
    · cases d with
      | tup l => exact same_tup hp (dok_tup.mp h).1 fun e he => same_ok ((dok_tup.mp h).2 e he)
      | lst l => exact same_lst hp (dok_lst.mp h).1 fun e he => same_ok ((dok_lst.mp h).2 e he)
      | jar => cases h
      | ob _ => cases h
      | scr _ => cases h
      | dct _ _ => cases h
      | _ => exact (h0 h).elim
end Kx
end
section
set_option Elab.async false
set_option linter.all false
set_option maxRecDepth 100000
set_option maxHeartbeats 4000000
/-! The law's judge. -/
namespace Kx
open PySem PySem.Spec PyProof.Rows L2 Fh
local macro_rules | `(tactic| walk_at "wp") => `(tactic| set_option smartUnfolding false in with_unfolding_all conv => whnf)
def exL : List Str := [("BadNet" : Str), "BadVotes", "BadLinks", "BadNeed", "TooMany"]
def hHeard : Hfl := heardG exL
def hTells : Hfl := tellsG hHeard (f_same 6)
def hfJ : Str → Option Hfl := fun x => if x = ("_law_heard" : Str) then some hHeard else if x = ("_law_tells" : Str) then some hTells else none
def tJ := addS "_law_net_refusal" f_refusal (addS "_law_take" f_take (addS "_law_same" (f_same 6) (addS "is_net" f_is_net t6)))
def f_judged : Fnl := runDef lib tJ hfJ d_law_judged
theorem netR_dok {d : D} {n : Nat} {k : Str} {e : D} (hd : d.dok n = true) (h : netR d = some (k, e)) : e.dok n = true := by
  unfold netR at h
  split at h
  · rename_i v l x
    cases n with
    | zero => cases hd
    | succ n =>
    have hx := (dok_tup.mp hd).2 x (by simp)
    split at h
    · rename_i e1 z
      cases h
      unfold votesR at z
      split at z
      · rename_i vl
        split at z
        · cases z; rfl
        · obtain ⟨_, rfl⟩ := badAs_in z
          rcases firstBad_cases (fun d => geI d 0) vl 0 with y | ⟨i, y⟩
          · rw [y]; rfl
          · rw [y]; rfl
      · cases z; rfl
    · split at h
      · rename_i z
        cases h
        unfold linksR at z
        split at z
        · rename_i ll
          obtain ⟨_, rfl⟩ := badAs_in z
          rcases badPair_cases (m := lenI v) ll (-1) (-1) 0 with y | ⟨i, y⟩
          · rw [y]; rfl
          · rw [y]; rfl
        · cases z; rfl
      · unfold needR at h
        split at h
        · cases h
        · cases h
          exact dok_up (Nat.le_succ _) hx
  · cases h; rfl
theorem strOk_in {k : Str} (h : k = "BadNet" ∨ k = "BadVotes" ∨ k = "TooMany" ∨ k = "BadLinks" ∨ k = "BadNeed") : PyData.strOk k = true ∧ exL.contains k = true := by
  rcases h with rfl | rfl | rfl | rfl | rfl <;> exact ⟨by kernel_rfl, by kernel_rfl⟩
/-- what is due -/
def dueD (d : D) : D := match netR d with
  | none => .tup [.str "told", d]
  | some (k, e) => .tup [.str k, e]
theorem due_dok {d : D} {n : Nat} (hd : d.dok n = true) : (dueD d).dok (n + 1) = true := by
  unfold dueD
  cases e : netR d with
  | none =>
    dsimp only
    refine dok_tup.mpr ⟨by simp, fun x z => ?_⟩
    rcases List.mem_cons.mp z with rfl | z
    · show PyData.strOk _ = true
      kernel_rfl
    · have : x = d := by simpa using z
      subst this
      exact hd
  | some p =>
    obtain ⟨k, x⟩ := p
    dsimp only
    refine dok_tup.mpr ⟨by simp, fun y z => ?_⟩
    rcases List.mem_cons.mp z with rfl | z
    · exact (strOk_in (netR_in e)).1
    · have : y = x := by simpa using z
      subst this
      exact netR_dok hd e
theorem heard_net {d : D} {a b : Int} : hHeard (resO (netR d) d) [] (J a b) = some (.ok (dueD d), J a b) := by
  unfold hHeard heardG dueD
  cases e : netR d with
  | none => rfl
  | some p =>
    obtain ⟨k, x⟩ := p
    dsimp only
    show (if (exL.contains k && isL (J a b)) = true then some (Res.ok (heardR (.ex k x)), J a b) else none) = _
    rw [(strOk_in (netR_in e)).2]
    rfl
theorem tells_bool {v : Bool} {a b : Int} : hTells (.ok (.bl v)) [.bl v] (J a b) = some (.ok (.bl true), J a b) := by
  have h : f_same 6 [.tup [.str "told", .bl v], .tup [.str "told", .bl v]] (J a b) = some (.ok (.bl true), J a b) := same_ok (dok_tup.mpr ⟨by simp, fun x z => by
    rcases List.mem_cons.mp z with rfl | z
    · show PyData.strOk _ = true
      kernel_rfl
    · have : x = .bl v := by simpa using z
      subst this
      rfl⟩)
  unfold hTells tellsG
  show (match hHeard (.ok (.bl v)) [] (J a b) with
    | some (.ok d, c1) => match f_same 6 [d, .tup [.str "told", .bl v]] c1 with
      | some (.ok b, c2) => some (Res.ok b, c2)
      | _ => none
    | _ => none) = _
  have h2 : hHeard (.ok (.bl v)) [] (J a b) = some (.ok (.tup [.str "told", .bl v]), J a b) := rfl
  rw [h2]
  dsimp only
  rw [h]
theorem judged_ok {d : D} {n : Nat} {a b : Int} (hd : d.dok n = true) (hn : n ≤ 5) : Brings f_judged [.jar, d] (J a b) (JarQ fun d => d = .bl true) := by
  have du : f_same 6 [dueD d, dueD d] = f_same 6 [dueD d, dueD d] := rfl
  have ds : ∀ c, f_same 6 [dueD d, dueD d] c = some (.ok (.bl true), c) := fun c => same_ok (dok_up (by omega) (due_dok hd))
  refine brings_of rfl ?_
  walk_at "wp"
  cases e : netR d with
  | none =>
    have eD : dueD d = .tup [.str "told", d] := by unfold dueD; rw [e]
    have ds2 : ∀ c, f_same 6 [dueD d, .tup [.str "told", d]] c = some (.ok (.bl true), c) := fun c => by
      have h := ds c
      rw [eD] at h ⊢
      exact h
    refine ⟨_, _, (refusal_ok hd (by omega)).trans (by rw [e] <;> rfl), ?_⟩
    walk_at "wp"
    refine ⟨fun _ => ?_, fun z => (by cases z)⟩
    walk_at "wp"
    obtain ⟨r, c, e1, i, a', b', rfl, rfl, j, rfl, _, _⟩ := take_ok (a := a) (b := b) (t := 2) (by omega) (by decide)
    refine ⟨_, _, e1, ?_⟩
    walk_at "wp"
    refine ⟨fun _ => ?_, fun _ => ?_⟩
    · walk_at "wp"
      refine ⟨_, _, (is_net_ok hd).trans (by rw [e] <;> rfl), ?_⟩
      walk_at "wp"
      refine ⟨_, _, tells_bool (v := true), ?_⟩
      walk_at "wp"
      refine ⟨fun z => (by cases z), fun _ => ?_⟩
      walk_at "wp"
      refine ⟨_, _, made_net_ok hd, ?_⟩
      walk_at "wp"
      refine ⟨_, _, heard_net, ?_⟩
      walk_at "wp"
      refine ⟨_, _, ds2 _, ?_⟩
      walk_at "wp"
      refine ⟨fun z => (by cases z), fun _ => ?_⟩
      walk_at "wp"
      refine ⟨_, _, (is_net_ok hd).trans (by rw [e] <;> rfl), ?_⟩
      walk_at "wp"
      refine ⟨_, _, tells_bool (v := true), ?_⟩
      walk_at "wp"
      refine ⟨fun z => (by cases z), fun _ => ?_⟩
      walk_at "wp"
      obtain ⟨r, c, e2, i2, a', b', rfl, rfl, j2, rfl, _, _⟩ := take_ok (t := 2) (by omega) (by decide)
      refine ⟨_, _, e2, ?_⟩
      walk_at "wp"
      refine ⟨fun _ => ?_, fun _ => ?_⟩
      · walk_at "wp"
        exact ⟨_, _, _, rfl, rfl, rfl⟩
      · walk_at "wp"
        refine ⟨_, _, made_net_ok hd, ?_⟩
        walk_at "wp"
        refine ⟨_, _, heard_net, ?_⟩
        walk_at "wp"
        refine ⟨_, _, ds2 _, ?_⟩
        walk_at "wp"
        exact ⟨_, _, _, rfl, rfl, rfl⟩
    · walk_at "wp"
      refine ⟨fun z => (by cases z), fun _ => ?_⟩
      walk_at "wp"
      refine ⟨_, _, made_net_ok hd, ?_⟩
      walk_at "wp"
      refine ⟨_, _, heard_net, ?_⟩
      walk_at "wp"
      refine ⟨_, _, ds2 _, ?_⟩
      walk_at "wp"
      refine ⟨fun z => (by cases z), fun _ => ?_⟩
      walk_at "wp"
      refine ⟨_, _, (is_net_ok hd).trans (by rw [e] <;> rfl), ?_⟩
      walk_at "wp"
      refine ⟨_, _, tells_bool (v := true), ?_⟩
      walk_at "wp"
      refine ⟨fun z => (by cases z), fun _ => ?_⟩
      walk_at "wp"
      obtain ⟨r, c, e2, i2, a', b', rfl, rfl, j2, rfl, _, _⟩ := take_ok (t := 2) (by omega) (by decide)
      refine ⟨_, _, e2, ?_⟩
      walk_at "wp"
      refine ⟨fun _ => ?_, fun _ => ?_⟩
      · walk_at "wp"
        exact ⟨_, _, _, rfl, rfl, rfl⟩
      · walk_at "wp"
        refine ⟨_, _, made_net_ok hd, ?_⟩
        walk_at "wp"
        refine ⟨_, _, heard_net, ?_⟩
        walk_at "wp"
        refine ⟨_, _, ds2 _, ?_⟩
        walk_at "wp"
        exact ⟨_, _, _, rfl, rfl, rfl⟩
  | some p =>
    have eD : dueD d = .tup [.str p.1, p.2] := by unfold dueD; rw [e]
    have ds2 : ∀ c, f_same 6 [dueD d, .tup [.str p.1, p.2]] c = some (.ok (.bl true), c) := fun c => by
      have h := ds c
      rw [eD] at h ⊢
      exact h
    refine ⟨_, _, (refusal_ok hd (by omega)).trans (by rw [e] <;> rfl), ?_⟩
    walk_at "wp"
    refine ⟨fun z => (by cases z), fun _ => ?_⟩
    walk_at "wp"
    obtain ⟨r, c, e1, i, a', b', rfl, rfl, j, rfl, _, _⟩ := take_ok (a := a) (b := b) (t := 2) (by omega) (by decide)
    refine ⟨_, _, e1, ?_⟩
    walk_at "wp"
    refine ⟨fun _ => ?_, fun _ => ?_⟩
    · walk_at "wp"
      refine ⟨_, _, (is_net_ok hd).trans (by rw [e] <;> rfl), ?_⟩
      walk_at "wp"
      refine ⟨_, _, tells_bool (v := false), ?_⟩
      walk_at "wp"
      refine ⟨fun z => (by cases z), fun _ => ?_⟩
      walk_at "wp"
      refine ⟨_, _, made_net_ok hd, ?_⟩
      walk_at "wp"
      refine ⟨_, _, heard_net, ?_⟩
      walk_at "wp"
      refine ⟨_, _, ds2 _, ?_⟩
      walk_at "wp"
      refine ⟨fun z => (by cases z), fun _ => ?_⟩
      walk_at "wp"
      refine ⟨_, _, (is_net_ok hd).trans (by rw [e] <;> rfl), ?_⟩
      walk_at "wp"
      refine ⟨_, _, tells_bool (v := false), ?_⟩
      walk_at "wp"
      refine ⟨fun z => (by cases z), fun _ => ?_⟩
      walk_at "wp"
      obtain ⟨r, c, e2, i2, a', b', rfl, rfl, j2, rfl, _, _⟩ := take_ok (t := 2) (by omega) (by decide)
      refine ⟨_, _, e2, ?_⟩
      walk_at "wp"
      refine ⟨fun _ => ?_, fun _ => ?_⟩
      · walk_at "wp"
        exact ⟨_, _, _, rfl, rfl, rfl⟩
      · walk_at "wp"
        refine ⟨_, _, made_net_ok hd, ?_⟩
        walk_at "wp"
        refine ⟨_, _, heard_net, ?_⟩
        walk_at "wp"
        refine ⟨_, _, ds2 _, ?_⟩
        walk_at "wp"
        exact ⟨_, _, _, rfl, rfl, rfl⟩
    · walk_at "wp"
      refine ⟨fun z => (by cases z), fun _ => ?_⟩
      walk_at "wp"
      refine ⟨_, _, made_net_ok hd, ?_⟩
      walk_at "wp"
      refine ⟨_, _, heard_net, ?_⟩
      walk_at "wp"
      refine ⟨_, _, ds2 _, ?_⟩
      walk_at "wp"
      refine ⟨fun z => (by cases z), fun _ => ?_⟩
      walk_at "wp"
      refine ⟨_, _, (is_net_ok hd).trans (by rw [e] <;> rfl), ?_⟩
      walk_at "wp"
      refine ⟨_, _, tells_bool (v := false), ?_⟩
      walk_at "wp"
      refine ⟨fun z => (by cases z), fun _ => ?_⟩
      walk_at "wp"
      obtain ⟨r, c, e2, i2, a', b', rfl, rfl, j2, rfl, _, _⟩ := take_ok (t := 2) (by omega) (by decide)
      refine ⟨_, _, e2, ?_⟩
      walk_at "wp"
      refine ⟨fun _ => ?_, fun _ => ?_⟩
      · walk_at "wp"
        exact ⟨_, _, _, rfl, rfl, rfl⟩
      · walk_at "wp"
        refine ⟨_, _, made_net_ok hd, ?_⟩
        walk_at "wp"
        refine ⟨_, _, heard_net, ?_⟩
        walk_at "wp"
        refine ⟨_, _, ds2 _, ?_⟩
        walk_at "wp"
        exact ⟨_, _, _, rfl, rfl, rfl⟩
end Kx
end
section
set_option Elab.async false
set_option linter.all false
set_option maxRecDepth 100000
set_option maxHeartbeats 4000000
/-! Drawn nets. -/
namespace Kx
open PySem PySem.Spec PyProof.Rows L2 Fh
local macro_rules | `(tactic| walk_at "wp") => `(tactic| set_option smartUnfolding false in with_unfolding_all conv => whnf)
def tn1 := addS "_law_one" f_one (addS "_law_some" f_some tj)
def f_size : Fnl := runDef lib tn1 noH d_law_size
def isInt (d : D) : Prop := ∃ i, d = .int i
theorem size_ok {a b k : Int} : Brings f_size [.jar, .int k] (J a b) (JarQ isInt) := by
  refine brings_of rfl ?_
  walk_at "wp"
  obtain ⟨r, c, e1, i, a1, b1, rfl, rfl, j, rfl, _, _⟩ := take_ok (a := a) (b := b) (t := 4) (by omega) (by decide)
  refine ⟨_, _, e1, ?_⟩
  walk_at "wp"
  refine ⟨by kernel_rfl, ?_⟩
  walk_at "wp"
  obtain ⟨r, c, e2, i2, a2, b2, rfl, rfl, j2, rfl, _, _⟩ := take_ok (a := a1) (b := b1) (t := 10 ^ 6) (by decide) (by decide)
  refine ⟨_, _, e2, ?_⟩
  walk_at "wp"
  refine ⟨by kernel_rfl, ?_⟩
  walk_at "wp"
  refine ⟨by kernel_rfl, ?_⟩
  walk_at "wp"
  refine ⟨by kernel_rfl, ?_⟩
  walk_at "wp"
  refine ⟨by kernel_rfl, ?_⟩
  walk_at "wp"
  obtain ⟨r, c, e3, i3, a3, b3, rfl, rfl, h⟩ := one_ok (a := a2) (b := b2) (l := [.int (k + j), .int (k + j), .int (k + j), .int (k + j), .int (k + j2), .int (2 ^ 64 + (k + j)), .int (10 ^ 60 + (k + j)), .int ((10 ^ 60) ^ 16 + (k + j))]) (by simp) (by simp)
  refine ⟨_, _, e3, ?_⟩
  walk_at "wp"
  refine ⟨_, _, _, rfl, rfl, ?_⟩
  simp only [List.mem_cons, List.not_mem_nil, or_false] at h
  rcases h with h | h | h | h | h | h | h | h <;> exact ⟨_, h⟩
def isPr (d : D) : Prop := ∃ x y : Int, d = .tup [.int x, .int y] ∧ 0 ≤ x ∧ x ≤ 40 ∧ 0 ≤ y ∧ y ≤ 40
def f_pairs : Fnl := runDef lib no0 noH d_law_pairs
theorem rng_consI {k : Int} {n : Nat} : rng k 1 (n + 1) = .int k :: rng (k + 1) 1 n := rfl
theorem pairs_ok {n : Int} {c : HO} (h0 : 0 ≤ n) (hn : n ≤ 40) : Brings f_pairs [.int n] c (fun r c' => c' = c ∧ ∃ ps, r = .ok (.lst ps) ∧ ps.length ≤ 1600 ∧ ∀ p ∈ ps, isPr p) := by
  refine brings_of rfl ?_
  walk_at "wp"
  refine ⟨by kernel_rfl, ?_⟩
  walk_at "wp"
  refine ⟨bnd_of (by omega) (by omega), ?_⟩
  walk_at "wp"
  refine loop_g (fun es ρ c2 => c2 = c ∧ ∃ (k : Int) (m : Nat) (ps : List D), (∃ u, ρ = [some (.fr (.int n)), some (.ow ps), u, none]) ∧ es = rng k 1 m ∧ 0 ≤ k ∧ k + m = n ∧ ps.length ≤ 40 * k.toNat ∧ ∀ p ∈ ps, isPr p) ?_ ?_ ?_
  · exact ⟨rfl, 0, n.toNat, [], ⟨_, rfl⟩, rfl, by omega, by omega, by simp, by simp⟩
  · rintro d es ρ c2 ⟨rfl, k, m, ps, ⟨u, rfl⟩, hds, hk0, hkm, hl, hp⟩
    cases m with
    | zero => cases hds
    | succ m =>
    cases hds
    refine ⟨_, rfl, ?_⟩
    walk_at "wp"
    refine ⟨Bool.and_eq_true_iff.mpr ⟨bnd_of (i := k + 1) (by omega) (by omega), bnd_of (by omega) (by omega)⟩, ?_⟩
    walk_at "wp"
    refine lst_g (I := fun qs ds c3 => c3 = c2 ∧ ∃ (k2 : Int) (m2 : Nat), ds = rng k2 1 m2 ∧ k + 1 ≤ k2 ∧ k2 + m2 ≤ max (k + 1) n ∧ qs.length + m2 ≤ 40 ∧ ∀ p ∈ qs, isPr p) ?_ ?_ ?_
    · exact ⟨rfl, k + 1, (n - (k + 1)).toNat, rfl, by omega, by omega, by simp; omega, by simp⟩
    · rintro qs d ds c3 ⟨rfl, k2, m2, hds, g1, g2, g3, g4⟩
      cases m2 with
      | zero => cases hds
      | succ m2 =>
      cases hds
      refine ⟨_, rfl, (true, c3), rfl, fun _ => runs_of ?_, fun z => (by cases z)⟩
      walk_at "wp"
      refine ⟨rfl, k2 + 1, m2, rfl, by omega, by omega, by simp; omega, fun p z => ?_⟩
      rcases List.mem_append.mp z with z | z
      · exact g4 p z
      · have e : p = .tup [.int k, .int k2] := by simpa using z
        exact ⟨k, k2, e, by omega, by omega, by omega, by omega⟩
    · rintro qs c3 ⟨rfl, k2, m2, hds, g1, g2, g3, g4⟩
      walk_at "wp"
      refine ⟨decide_eq_true (Nat.lt_of_le_of_lt (show qs.length ≤ 40 by omega) (by decide)), ?_⟩
      walk_at "wp"
      refine ⟨decide_eq_true (Nat.le_trans (show ps.length + qs.length ≤ 2000 by omega) (by decide)), ?_⟩
      walk_at "wp"
      refine ⟨rfl, k + 1, m, ps ++ qs, ⟨_, rfl⟩, rfl, by omega, by omega, ?_, fun p z => ?_⟩
      · rw [List.length_append]; omega
      · rcases List.mem_append.mp z with z | z
        · exact hp p z
        · exact g4 p z
  · rintro ρ c2 ⟨rfl, k, m, ps, ⟨u, rfl⟩, hds, hk0, hkm, hl, hp⟩
    have hm : m = 0 := by
      cases m with
      | zero => rfl
      | succ m => cases hds
    walk_at "wp"
    exact ⟨rfl, ps, rfl, by omega, hp⟩
def NetP (d : D) : Prop := ∃ vs ps i, d = .tup [.tup vs, .tup ps, .int i] ∧ vs.length ≤ 40 ∧ (∀ v ∈ vs, isInt v) ∧ ps.length ≤ 1600 ∧ ∀ p ∈ ps, isPr p
def tn2 := addS "_law_size" f_size (addS "_law_pairs" f_pairs tn1)
def f_raw : Fnl := runDef lib tn2 noH d_law_raw_net
def f_full : Fnl := runDef lib tn2 noH d_law_full_net
theorem full_ok {a b : Int} : Brings f_full [.jar] (J a b) (JarQ NetP) := by
  refine brings_of rfl ?_
  walk_at "wp"
  refine ⟨bnd_of (i := 40) (by omega) (by omega), ?_⟩
  walk_at "wp"
  refine lst_g (I := fun es ds c => (∃ a b, c = J a b) ∧ (∃ (k : Int) (m : Nat), ds = rng k 1 m ∧ es.length + m = 40) ∧ ∀ e ∈ es, isInt e) ?_ ?_ ?_
  · exact ⟨⟨_, _, rfl⟩, ⟨0, 40, rfl, rfl⟩, by simp⟩
  · rintro es d ds c ⟨⟨a, b, rfl⟩, ⟨k, m, hds, hl⟩, hi⟩
    cases m with
    | zero => cases hds
    | succ m =>
    cases hds
    refine ⟨_, rfl, (true, J a b), rfl, fun _ => runs_of ?_, fun z => (by cases z)⟩
    walk_at "wp"
    obtain ⟨r, c, e1, i, a1, b1, rfl, rfl, j, rfl⟩ := size_ok (a := a) (b := b) (k := 0)
    refine ⟨_, _, e1, ?_⟩
    walk_at "wp"
    refine ⟨⟨_, _, rfl⟩, ⟨k + 1, m, rfl, by simp; omega⟩, fun e z => ?_⟩
    rcases List.mem_append.mp z with z | z
    · exact hi e z
    · exact ⟨j, by simpa using z⟩
  · rintro es c ⟨⟨a, b, rfl⟩, ⟨k, m, hds, hl⟩, hi⟩
    walk_at "wp"
    refine ⟨decide_eq_true (Nat.lt_of_le_of_lt (show es.length ≤ 40 by omega) (by decide)), ?_⟩
    walk_at "wp"
    obtain ⟨r, c, e1, rfl, ps, rfl, h3, h4⟩ := pairs_ok (n := 40) (c := J a b) (by omega) (by omega)
    refine ⟨_, _, e1, ?_⟩
    walk_at "wp"
    obtain ⟨r, c, e2, i, a2, b2, rfl, rfl, j, rfl⟩ := size_ok (a := a) (b := b) (k := 1)
    refine ⟨_, _, e2, ?_⟩
    walk_at "wp"
    exact ⟨_, _, _, rfl, rfl, es, ps, j, rfl, by omega, hi, h3, h4⟩
theorem raw_ok {a b : Int} : Brings f_raw [.jar] (J a b) (JarQ NetP) := by
  refine brings_of rfl ?_
  walk_at "wp"
  obtain ⟨r, c, e0, i0, a0, b0, rfl, rfl, j0, rfl, g1, g2⟩ := take_ok (a := a) (b := b) (t := 41) (by omega) (by decide)
  refine ⟨_, _, e0, ?_⟩
  walk_at "wp"
  obtain ⟨r, c, e1, i1, a1, b1, rfl, rfl, h⟩ := one_ok (a := a0) (b := b0) (l := [.int 0, .int 1, .int 2, .int 3, .int 4, .int 5, .int 6, .int 7, .int 9, .int 10, .int 11, .int 17, .int j0, .int 39, .int 40]) (by simp) (by simp)
  have hn : ∃ n : Nat, i1 = .int n ∧ n ≤ 40 := by
    simp only [List.mem_cons, List.not_mem_nil, or_false] at h
    rcases h with h | h | h | h | h | h | h | h | h | h | h | h | h | h | h
    · exact ⟨0, h, by omega⟩
    · exact ⟨1, h, by omega⟩
    · exact ⟨2, h, by omega⟩
    · exact ⟨3, h, by omega⟩
    · exact ⟨4, h, by omega⟩
    · exact ⟨5, h, by omega⟩
    · exact ⟨6, h, by omega⟩
    · exact ⟨7, h, by omega⟩
    · exact ⟨9, h, by omega⟩
    · exact ⟨10, h, by omega⟩
    · exact ⟨11, h, by omega⟩
    · exact ⟨17, h, by omega⟩
    · refine ⟨j0.toNat, ?_, by omega⟩
      rw [h]
      congr 1
      omega
    · exact ⟨39, h, by omega⟩
    · exact ⟨40, h, by omega⟩
  obtain ⟨n, rfl, hn⟩ := hn
  refine ⟨_, _, e1, ?_⟩
  walk_at "wp"
  obtain ⟨r, c, e2, rfl, ps, rfl, h3, h4⟩ := pairs_ok (n := (n : Int)) (c := J a1 b1) (by omega) (by omega)
  refine ⟨_, _, e2, ?_⟩
  walk_at "wp"
  obtain ⟨r, c, e3, i3, a3, b3, rfl, rfl, j3, rfl, _, _⟩ := take_ok (a := a1) (b := b1) (t := 4) (by omega) (by decide)
  refine ⟨_, _, e3, ?_⟩
  have fin : ∀ (qs : List D) (a b : Int), (∀ p ∈ qs, isPr p) → qs.length ≤ 1600 → True := fun _ _ _ _ _ => trivial
  walk_at "wp"
  refine ⟨fun _ => ?_, fun _ => ?_⟩
  · walk_at "wp"
    refine ⟨bnd_of (i := (n : Int)) (by omega) (by omega), ?_⟩
    walk_at "wp"
    refine lst_g (I := fun es ds c => (∃ a b, c = J a b) ∧ (∃ (k : Int) (m : Nat), ds = rng k 1 m ∧ es.length + m = n) ∧ ∀ e ∈ es, isInt e) ?_ ?_ ?_
    · exact ⟨⟨_, _, rfl⟩, ⟨0, n, rfl, by simp⟩, by simp⟩
    · rintro es d ds c ⟨⟨a, b, rfl⟩, ⟨k, m, hds, hl⟩, hi⟩
      cases m with
      | zero => cases hds
      | succ m =>
      cases hds
      refine ⟨_, rfl, (true, J a b), rfl, fun _ => runs_of ?_, fun z => (by cases z)⟩
      walk_at "wp"
      obtain ⟨r, c, e1, i, a1, b1, rfl, rfl, j, rfl⟩ := size_ok (a := a) (b := b) (k := 0)
      refine ⟨_, _, e1, ?_⟩
      walk_at "wp"
      refine ⟨⟨_, _, rfl⟩, ⟨k + 1, m, rfl, by simp; omega⟩, fun e z => ?_⟩
      rcases List.mem_append.mp z with z | z
      · exact hi e z
      · exact ⟨j, by simpa using z⟩
    · rintro es c ⟨⟨a, b, rfl⟩, ⟨k, m, hds, hl⟩, hi⟩
      walk_at "wp"
      refine ⟨decide_eq_true (Nat.lt_of_le_of_lt (show es.length ≤ 40 by omega) (by decide)), ?_⟩
      walk_at "wp"
      obtain ⟨r, c, e2, i, a2, b2, rfl, rfl, j, rfl⟩ := size_ok (a := a) (b := b) (k := 1)
      refine ⟨_, _, e2, ?_⟩
      walk_at "wp"
      exact ⟨_, _, _, rfl, rfl, es, ps, j, rfl, by omega, hi, h3, h4⟩
  · walk_at "wp"
    refine ⟨fun _ => ?_, fun _ => ?_⟩
    · walk_at "wp"
      refine ⟨bnd_of (i := (n : Int)) (by omega) (by omega), ?_⟩
      walk_at "wp"
      refine lst_g (I := fun es ds c => (∃ a b, c = J a b) ∧ (∃ (k : Int) (m : Nat), ds = rng k 1 m ∧ es.length + m = n) ∧ ∀ e ∈ es, isInt e) ?_ ?_ ?_
      · exact ⟨⟨_, _, rfl⟩, ⟨0, n, rfl, by simp⟩, by simp⟩
      · rintro es d ds c ⟨⟨a, b, rfl⟩, ⟨k, m, hds, hl⟩, hi⟩
        cases m with
        | zero => cases hds
        | succ m =>
        cases hds
        refine ⟨_, rfl, (true, J a b), rfl, fun _ => runs_of ?_, fun z => (by cases z)⟩
        walk_at "wp"
        obtain ⟨r, c, e1, i, a1, b1, rfl, rfl, j, rfl⟩ := size_ok (a := a) (b := b) (k := 0)
        refine ⟨_, _, e1, ?_⟩
        walk_at "wp"
        refine ⟨⟨_, _, rfl⟩, ⟨k + 1, m, rfl, by simp; omega⟩, fun e z => ?_⟩
        rcases List.mem_append.mp z with z | z
        · exact hi e z
        · exact ⟨j, by simpa using z⟩
      · rintro es c ⟨⟨a, b, rfl⟩, ⟨k, m, hds, hl⟩, hi⟩
        walk_at "wp"
        refine ⟨decide_eq_true (Nat.lt_of_le_of_lt (show es.length ≤ 40 by omega) (by decide)), ?_⟩
        walk_at "wp"
        obtain ⟨r, c, e2, i, a2, b2, rfl, rfl, j, rfl⟩ := size_ok (a := a) (b := b) (k := 1)
        refine ⟨_, _, e2, ?_⟩
        walk_at "wp"
        exact ⟨_, _, _, rfl, rfl, es, [], j, rfl, by omega, hi, (by simp), (by simp)⟩
    · walk_at "wp"
      obtain ⟨r, c, e4, i4, a4, b4, rfl, rfl, qs, rfl, q1, q2⟩ := some_ok (a := a3) (b := b3) (l := ps) (by omega)
      refine ⟨_, _, e4, ?_⟩
      walk_at "wp"
      refine ⟨bnd_of (i := (n : Int)) (by omega) (by omega), ?_⟩
      walk_at "wp"
      refine lst_g (I := fun es ds c => (∃ a b, c = J a b) ∧ (∃ (k : Int) (m : Nat), ds = rng k 1 m ∧ es.length + m = n) ∧ ∀ e ∈ es, isInt e) ?_ ?_ ?_
      · exact ⟨⟨_, _, rfl⟩, ⟨0, n, rfl, by simp⟩, by simp⟩
      · rintro es d ds c ⟨⟨a, b, rfl⟩, ⟨k, m, hds, hl⟩, hi⟩
        cases m with
        | zero => cases hds
        | succ m =>
        cases hds
        refine ⟨_, rfl, (true, J a b), rfl, fun _ => runs_of ?_, fun z => (by cases z)⟩
        walk_at "wp"
        obtain ⟨r, c, e1, i, a1, b1, rfl, rfl, j, rfl⟩ := size_ok (a := a) (b := b) (k := 0)
        refine ⟨_, _, e1, ?_⟩
        walk_at "wp"
        refine ⟨⟨_, _, rfl⟩, ⟨k + 1, m, rfl, by simp; omega⟩, fun e z => ?_⟩
        rcases List.mem_append.mp z with z | z
        · exact hi e z
        · exact ⟨j, by simpa using z⟩
      · rintro es c ⟨⟨a, b, rfl⟩, ⟨k, m, hds, hl⟩, hi⟩
        walk_at "wp"
        refine ⟨decide_eq_true (Nat.lt_of_le_of_lt (show es.length ≤ 40 by omega) (by decide)), ?_⟩
        walk_at "wp"
        obtain ⟨r, c, e2, i, a2, b2, rfl, rfl, j, rfl⟩ := size_ok (a := a) (b := b) (k := 1)
        refine ⟨_, _, e2, ?_⟩
        walk_at "wp"
        exact ⟨_, _, _, rfl, rfl, es, qs, j, rfl, by omega, hi, (by omega), (fun p z => h4 p (q2 p z))⟩
end Kx
end
section
set_option Elab.async false
set_option linter.all false
set_option maxRecDepth 100000
set_option maxHeartbeats 4000000
/-! Ways into a thing. -/
namespace Kx
open PySem PySem.Spec PyProof.Rows L2 Fh
local macro_rules | `(tactic| walk_at "wp") => `(tactic| set_option smartUnfolding false in with_unfolding_all conv => whnf)
def sub : List Nat → D → Option D
  | [], d => some d
  | i :: w, d => match d with
    | .tup l => (l[i]?).bind (sub w)
    | _ => none
def wayL (w : List Nat) : List D := w.map fun (i : Nat) => D.int (i : Int)
def wayD (w : List Nat) : D := .tup (wayL w)
theorem sub_cons {i : Nat} {w : List Nat} {d p : D} (h : sub (i :: w) d = some p) : ∃ l e, d = .tup l ∧ l[i]? = some e ∧ sub w e = some p := by
  unfold sub at h
  split at h
  · rename_i l
    cases e : l[i]? with
    | none => rw [e] at h; cases h
    | some x => rw [e] at h; exact ⟨l, x, rfl, e, h⟩
  · cases h
theorem sub_snoc : ∀ {w : List Nat} {d : D} {l : List D} {i : Nat} {e : D}, sub w d = some (.tup l) → l[i]? = some e → sub (w ++ [i]) d = some e
  | [], d, l, i, e, h, he => by
    cases h
    show (l[i]?).bind (sub []) = _
    rw [he]; rfl
  | j :: w, d, l, i, e, h, he => by
    obtain ⟨m, x, rfl, h1, h2⟩ := sub_cons h
    show (m[j]?).bind (sub (w ++ [i])) = _
    rw [h1]
    exact sub_snoc h2 he
theorem sub_dok : ∀ {w : List Nat} {d p : D} {n : Nat}, sub w d = some p → d.dok n = true → w.length ≤ n ∧ p.dok (n - w.length) = true
  | [], d, p, n, h, hd => by cases h; exact ⟨Nat.zero_le _, hd⟩
  | i :: w, d, p, n, h, hd => by
    obtain ⟨l, e, rfl, h1, h2⟩ := sub_cons h
    cases n with
    | zero => cases hd
    | succ n =>
      obtain ⟨a, b⟩ := sub_dok h2 ((dok_tup.mp hd).2 e (List.mem_of_getElem? h1))
      refine ⟨by simp; omega, ?_⟩
      rw [show n + 1 - (i :: w).length = n - w.length by simp]
      exact b
theorem wayD_dok {w : List Nat} (h : w.length ≤ 1000000) : (wayD w).dok 1 = true := by
  refine dok_tup.mpr ⟨by unfold wayL; rw [List.length_map]; exact h, fun d z => ?_⟩
  unfold wayL at z
  obtain ⟨i, _, rfl⟩ := List.mem_map.mp z
  rfl
def f_part : Fnl := runDef lib no0 noH d_law_part_in
theorem part_ok {d p : D} {w : List Nat} {c : HO} (h : sub w d = some p) : f_part [d, wayD w] c = some (.ok p, c) := by
  refine brings_eq (brings_of rfl ?_)
  walk_at "wp"
  refine loop_g (fun es ρ c2 => c2 = c ∧ ∃ w' d', (∃ u, ρ = [some (.fr d'), some (.fr (wayD w)), u]) ∧ es = wayL w' ∧ sub w' d' = some p) ?_ ?_ ?_
  · exact ⟨rfl, w, d, ⟨_, rfl⟩, rfl, h⟩
  · rintro e es ρ c2 ⟨rfl, w', d', ⟨u, rfl⟩, h1, h2⟩
    cases w' with
    | nil => cases h1
    | cons i w' =>
    obtain ⟨l, x, rfl, h3, h4⟩ := sub_cons h2
    cases h1
    refine ⟨_, rfl, ?_⟩
    obtain ⟨y1, y2⟩ := atV_of h3
    walk_at "wp"
    refine ⟨y1, ?_⟩
    walk_at "wp"
    exact ⟨rfl, w', atV l (i : Int), ⟨_, rfl⟩, rfl, by rw [y2]; exact h4⟩
  · rintro ρ c2 ⟨rfl, w', d', ⟨u, rfl⟩, h1, h2⟩
    have : w' = [] := by
      cases w' with
      | nil => rfl
      | cons _ _ => cases h1
    subst this
    cases h2
    walk_at "wp"
    exact ⟨rfl, rfl⟩
mutual
def nodes : D → Nat
  | .tup l => 1 + nodesL l
  | .lst _ => 1
  | .non => 1
  | .bl _ => 1
  | .int _ => 1
  | .str _ => 1
  | .jar => 1
  | .ob _ => 1
  | .scr _ => 1
  | .dct _ _ => 1
def nodesL : List D → Nat
  | [] => 0
  | d :: l => nodes d + nodesL l
end
theorem nodes_pos (d : D) : 1 ≤ nodes d := by
  cases d <;> simp [nodes]
theorem nodesL_app : ∀ (a b : List D), nodesL (a ++ b) = nodesL a + nodesL b
  | [], b => by simp [nodesL]
  | x :: a, b => by
    show nodes x + nodesL (a ++ b) = _
    rw [nodesL_app]
    show _ = nodes x + nodesL a + nodesL b
    omega
def fstD (e : D) : D := match e with
  | .tup [a, _] => a
  | _ => .non
def sndD (e : D) : D := match e with
  | .tup [_, a] => a
  | _ => .non
def wts (ps : List D) : Nat := nodesL (ps.map sndD)
def PartOk (t e : D) : Prop := ∃ w p, e = .tup [wayD w, p] ∧ sub w t = some p
theorem wts_len : ∀ (ps : List D), ps.length ≤ wts ps
  | [] => Nat.le_refl _
  | d :: ps => by
    have := wts_len ps
    have h2 := nodes_pos (sndD d)
    show ps.length + 1 ≤ nodes (sndD d) + wts ps
    omega
theorem wts_app (a b : List D) : wts (a ++ b) = wts a + wts b := by
  unfold wts
  rw [List.map_append, nodesL_app]
theorem parts_dok {t : D} {n : Nat} {ps : List D} (ht : t.dok n = true) (hn : n ≤ 50) (hl : ps.length ≤ 1000000) (hp : ∀ e ∈ ps, PartOk t e) : (D.lst ps).dok (n + 3) = true := by
  refine dok_lst.mpr ⟨hl, fun e z => ?_⟩
  obtain ⟨w, p, rfl, hs⟩ := hp e z
  obtain ⟨a, b⟩ := sub_dok hs ht
  refine dok_tup.mpr ⟨by simp, fun x y => ?_⟩
  rcases List.mem_cons.mp y with rfl | y
  · exact dok_up (by omega) (wayD_dok (by omega))
  · have e : x = p := by simpa using y
    subst e
    exact dok_up (by omega) b
def LvOk (t x : D) : Prop := ∃ ps, x = .lst (ps.map fstD) ∧ ps ≠ [] ∧ ps.length ≤ nodes t ∧ ∀ e ∈ ps, PartOk t e
def f_ways : Fnl := runDef lib no0 noH d_law_ways_in
theorem ways_ok {t : D} {n : Nat} {c : HO} (ht : t.dok n = true) (hn : n ≤ 50) (hN : nodes t ≤ 1000000) : Brings f_ways [t] c (fun r c' => c' = c ∧ ∃ rest, r = .ok (.lst (.lst [wayD []] :: rest)) ∧ rest.length ≤ 70 ∧ ∀ x ∈ rest, LvOk t x) := by
  refine brings_of rfl ?_
  walk_at "wp"
  refine ⟨by kernel_rfl, ?_⟩
  walk_at "wp"
  refine ⟨by kernel_rfl, ?_⟩
  walk_at "wp"
  refine loop_g (fun es ρ c2 => c2 = c ∧ ∃ (k : Int) (m : Nat) (lv ps : List D), (∃ u v1 v2 v3, ρ = [some (.fr t), u, some (.ow lv), some (.fr (.lst ps)), v1, v2, v3, none, none]) ∧ es = rng k 1 m ∧ m + lv.length = 70 ∧ (∀ e ∈ ps, PartOk t e) ∧ wts ps ≤ nodes t ∧
    ((lv = [] ∧ ps = [.tup [.tup [], t]]) ∨ ∃ rest, lv = .lst [wayD []] :: rest ∧ ∀ x ∈ rest, LvOk t x)) ?_ ?_ ?_
  · exact ⟨rfl, 0, 70, [], [.tup [.tup [], t]], ⟨_, _, _, _, rfl⟩, rfl, rfl, fun e z => ⟨[], t, (by have y : e = .tup [.tup [], t] := (by simpa using z); exact y), rfl⟩, by show nodes t + 0 ≤ _; omega, .inl ⟨rfl, rfl⟩⟩
  · rintro d es ρ c2 ⟨rfl, k, m, lv, ps, ⟨u, v1, v2, v3, rfl⟩, hds, hm, hps, hw, hlv⟩
    cases m with
    | zero => cases hds
    | succ m =>
    cases hds
    refine ⟨_, rfl, ?_⟩
    have hpl0 : ps.length ≤ nodes t := Nat.le_trans (wts_len ps) hw
    have hpl : ps.length ≤ 1000000 := Nat.le_trans hpl0 hN
    have pd := parts_dok ht hn hpl hps
    walk_at "wp"
    refine ⟨Bool.and_eq_true_iff.mpr ⟨dok_eqs pd (by omega), rfl⟩, ?_⟩
    walk_at "wp"
    cases hps0 : ps with
    | nil =>
      subst hps0
      refine ⟨fun _ => ?_, fun z => (by cases z)⟩
      walk_at "wp"
      refine ⟨rfl, ?_⟩
      rcases hlv with ⟨h1, h2⟩ | ⟨rest, h1, h2⟩
      · cases h2
      · subst h1
        exact ⟨rest, rfl, by simp at hm; omega, h2⟩
    | cons p0 ps0 =>
      rw [← hps0]
      have hne : ps ≠ [] := by rw [hps0]; simp
      refine ⟨fun z => (by rw [hps0] at z; cases z), fun _ => ?_⟩
      clear hps0
      walk_at "wp"
      refine lst_g (I := fun es ds c3 => c3 = c2 ∧ es ++ ds.map fstD = ps.map fstD ∧ ∀ e ∈ ds, PartOk t e) ?_ ?_ ?_
      · exact ⟨rfl, rfl, hps⟩
      · rintro es d ds c3 ⟨rfl, g1, g2⟩
        obtain ⟨w, p, rfl, hs⟩ := g2 d (by simp)
        refine ⟨_, rfl, (true, c3), rfl, fun _ => runs_of ?_, fun z => (by cases z)⟩
        walk_at "wp"
        refine ⟨rfl, ?_⟩
        walk_at "wp"
        refine ⟨rfl, ?_, fun e z => g2 e (by simp [z])⟩
        rw [← g1]
        show (es ++ [wayD w]) ++ ds.map fstD = es ++ (wayD w :: ds.map fstD)
        simp
      · rintro es c3 ⟨rfl, g1, g2⟩
        have ge : es = ps.map fstD := by rw [← g1]; simp
        have gl : es.length ≤ 1000000 := by rw [ge, List.length_map]; exact hpl
        walk_at "wp"
        refine ⟨decide_eq_true (Nat.lt_of_le_of_lt gl (by decide)), ?_⟩
        walk_at "wp"
        refine ⟨decide_eq_true (Nat.lt_of_le_of_lt (show lv.length ≤ 70 by omega) (by decide)), ?_⟩
        walk_at "wp"
        refine ⟨by kernel_rfl, ?_⟩
        walk_at "wp"
        refine loop_g (fun es2 ρ c4 => c4 = c3 ∧ ∃ qs, (∃ v2 v3, ρ = [some (.fr t), some (.fr (.int k)), some (.ow (lv ++ [.lst es])), some (.fr (.lst ps)), some (.ow qs), v2, v3, none, none]) ∧ (∀ e ∈ es2, PartOk t e) ∧ (∀ e ∈ qs, PartOk t e) ∧ wts qs + wts es2 ≤ wts ps) ?_ ?_ ?_
        · exact ⟨rfl, [], ⟨_, _, rfl⟩, hps, by simp, by show 0 + wts ps ≤ wts ps; omega⟩
        · rintro e es2 ρ c4 ⟨rfl, qs, ⟨w2, w3, rfl⟩, f1, f2, f3⟩
          obtain ⟨w, p, rfl, hs⟩ := f1 e (by simp)
          obtain ⟨sd1, sd2⟩ := sub_dok hs ht
          refine ⟨_, rfl, ?_⟩
          walk_at "wp"
          refine ⟨(kv_tuple (dok_plainD sd2)).1, ?_⟩
          walk_at "wp"
          have f3' : wts qs + (nodes p + wts es2) ≤ wts ps := f3
          refine ⟨fun z => ?_, fun z => ?_⟩
          · replace z : kitV p.ty "tuple" = true := z
            rw [(kv_tuple (dok_plainD sd2)).2] at z
            obtain ⟨l, rfl⟩ := isT_tup z
            have hn3 : nodes (.tup l) = 1 + nodesL l := rfl
            have hll : l.length ≤ 1000000 := by
              cases hq : n - w.length with
              | zero => rw [hq] at sd2; cases sd2
              | succ q => rw [hq] at sd2; exact (dok_tup.mp sd2).1
            walk_at "wp"
            refine ⟨bnd_of (by omega) (by omega), ?_⟩
            walk_at "wp"
            refine lst_g (I := fun rs ds c5 => c5 = c4 ∧ ∃ (j : Nat) (rest : List D), l.drop j = rest ∧ ds = rng (j : Int) 1 rest.length ∧ (∀ e ∈ rs, PartOk t e) ∧ wts rs + nodesL rest ≤ nodesL l) ?_ ?_ ?_
            · exact ⟨rfl, 0, l, rfl, rfl, by simp, by show 0 + nodesL l ≤ _; omega⟩
            · rintro rs d ds c5 ⟨rfl, j, rest, b1, b2, b3, b4⟩
              cases rest with
              | nil => cases b2
              | cons x rest =>
              obtain ⟨b5, b6⟩ := drop_cons b1
              obtain ⟨y1, y2⟩ := atV_of b5
              cases b2
              refine ⟨_, rfl, (true, c5), rfl, fun _ => runs_of ?_, fun z => (by cases z)⟩
              walk_at "wp"
              refine ⟨decide_eq_true (Nat.le_trans (show (wayL w).length + 1 ≤ 1000 by unfold wayL; rw [List.length_map]; omega) (by decide)), ?_⟩
              walk_at "wp"
              refine ⟨y1, ?_⟩
              walk_at "wp"
              refine ⟨rfl, j + 1, rest, b6, rfl, fun e z => ?_, ?_⟩
              · rcases List.mem_append.mp z with z | z
                · exact b3 e z
                · have ez : e = .tup [.tup (wayL w ++ [.int (j : Int)]), atV l (j : Int)] := by simpa using z
                  refine ⟨w ++ [j], x, ?_, sub_snoc hs b5⟩
                  rw [ez, y2]
                  show _ = D.tup [.tup (wayL (w ++ [j])), x]
                  unfold wayL
                  rw [List.map_append]
                  rfl
              · rw [wts_app]
                have e1 : wts [D.tup [.tup (wayL w ++ [.int (j : Int)]), atV l (j : Int)]] = nodes x := by
                  show nodes (atV l (j : Int)) + 0 = _
                  rw [y2]
                  omega
                have e2 : nodesL (x :: rest) = nodes x + nodesL rest := rfl
                have e3 : wts [D.tup [.tup (wayL w ++ [.int (j : Int)]), atV l (j : Int)]] + wts rs + nodesL rest ≤ nodesL l := by omega
                refine Nat.le_trans (Nat.le_of_eq ?_) e3
                show wts rs + wts [D.tup [.tup (wayL w ++ [.int (j : Int)]), atV l (j : Int)]] + nodesL rest = _
                omega
            · rintro rs c5 ⟨rfl, j, rest, b1, b2, b3, b4⟩
              have hrl := wts_len rs
              have hql := wts_len qs
              walk_at "wp"
              refine ⟨decide_eq_true (Nat.lt_of_le_of_lt (show rs.length ≤ 1000000 by omega) (by decide)), ?_⟩
              walk_at "wp"
              refine ⟨decide_eq_true (Nat.le_trans (show qs.length + rs.length ≤ 2000000 by omega) (by decide)), ?_⟩
              walk_at "wp"
              refine ⟨rfl, qs ++ rs, ⟨_, _, rfl⟩, fun e z => f1 e (by simp [z]), fun e z => ?_, ?_⟩
              · rcases List.mem_append.mp z with z | z
                · exact f2 e z
                · exact b3 e z
              · rw [wts_app]; omega
          · walk_at "wp"
            exact ⟨rfl, qs, ⟨_, _, rfl⟩, fun e z => f1 e (by simp [z]), f2, by have := nodes_pos p; omega⟩
        · rintro ρ c4 ⟨rfl, qs, ⟨w2, w3, rfl⟩, f1, f2, f3⟩
          walk_at "wp"
          have lvo : LvOk t (.lst es) := ⟨ps, by rw [ge], hne, hpl0, hps⟩
          refine ⟨rfl, k + 1, m, lv ++ [.lst es], qs, ⟨_, _, _, _, rfl⟩, rfl, by simp; omega, f2, ?_, .inr ?_⟩
          · have : wts ([] : List D) = 0 := rfl
            omega
          · rcases hlv with ⟨h1, h2⟩ | ⟨rest, h1, h2⟩
            · refine ⟨[], ?_, by simp⟩
              rw [h1, ge, h2]
              rfl
            · refine ⟨rest ++ [.lst es], by rw [h1]; rfl, fun x z => ?_⟩
              rcases List.mem_append.mp z with z | z
              · exact h2 x z
              · have : x = .lst es := by simpa using z
                rw [this]
                exact lvo
  · rintro ρ c2 ⟨rfl, k, m, lv, ps, ⟨u, v1, v2, v3, rfl⟩, hds, hm, hps, hw, hlv⟩
    have hm0 : m = 0 := by
      cases m with
      | zero => rfl
      | succ m => cases hds
    walk_at "wp"
    refine ⟨rfl, ?_⟩
    rcases hlv with ⟨h1, _⟩ | ⟨rest, h1, h2⟩
    · subst h1; simp at hm; omega
    · subst h1
      exact ⟨rest, rfl, by simp at hm; omega, h2⟩
end Kx
end
section
set_option Elab.async false
set_option linter.all false
set_option maxRecDepth 100000
set_option maxHeartbeats 4000000
/-! A part in the place of another. -/
namespace Kx
open PySem PySem.Spec PyProof.Rows L2 Fh
local macro_rules | `(tactic| walk_at "wp") => `(tactic| set_option smartUnfolding false in with_unfolding_all conv => whnf)
theorem sIx_some {n d j : Nat} : HT.sIx n d (some (j : Int)) = min j n := by
  show (if (j : Int) < 0 then ((j : Int) + n).toNat else min (j : Int).toNat n) = _
  rw [if_neg (by omega), Int.toNat_natCast]
theorem cut_take {l : List D} {j : Nat} : cutA l none (some (j : Int)) = l.take j := by
  unfold cutA
  rw [sIx_some, show HT.sIx l.length 0 none = 0 from rfl, List.drop_zero, Nat.sub_zero]
  by_cases z : j ≤ l.length
  · rw [Nat.min_eq_left z]
  · rw [Nat.min_eq_right (by omega), List.take_of_length_le (Nat.le_refl _), List.take_of_length_le (by omega)]
theorem cut_drop {l : List D} {j : Nat} : cutA l (some (j : Int)) none = l.drop j := by
  unfold cutA
  rw [sIx_some, show HT.sIx l.length l.length none = l.length from rfl]
  by_cases z : j ≤ l.length
  · rw [Nat.min_eq_left z, List.take_of_length_le (by rw [List.length_drop]; omega)]
  · rw [Nat.min_eq_right (by omega), List.drop_eq_nil_of_le (Nat.le_refl _), List.drop_eq_nil_of_le (show l.length ≤ j by omega)]
    simp
theorem wayL_take {w : List Nat} {j : Nat} : (wayL w).take j = wayL (w.take j) := by
  unfold wayL
  rw [List.map_take]
theorem sub_split : ∀ {w : List Nat} {t p : D} {j : Nat}, sub w t = some p → j < w.length → ∃ l i, sub (w.take j) t = some (.tup l) ∧ w[j]? = some i ∧ i < l.length
  | [], t, p, j, h, hj => by simp at hj
  | i :: w, t, p, 0, h, hj => by
    obtain ⟨l, e, rfl, h1, h2⟩ := sub_cons h
    exact ⟨l, i, rfl, rfl, (List.getElem?_eq_some_iff.mp h1).1⟩
  | i :: w, t, p, j + 1, h, hj => by
    obtain ⟨l, e, rfl, h1, h2⟩ := sub_cons h
    obtain ⟨l2, i2, h3, h4, h5⟩ := sub_split (j := j) h2 (by simpa using hj)
    refine ⟨l2, i2, ?_, by simpa using h4, h5⟩
    show (l[i]?).bind (sub (w.take j)) = _
    rw [h1]
    exact h3
def tset := addS "_law_part_in" f_part no0
def f_set : Fnl := runDef lib tset noH d_law_set_in
theorem set_ok {t p q : D} {w : List Nat} {n : Nat} {c : HO} (ht : t.dok n = true) (hn : n ≤ 50) (hs : sub w t = some p) (hq : q.dok (n - w.length + 1) = true) : Brings f_set [t, wayD w, q] c (fun r c' => c' = c ∧ ∃ d, r = .ok d ∧ d.dok (n + 1) = true) := by
  have hw := (sub_dok hs ht).1
  have hl : (wayL w).length = w.length := by unfold wayL; rw [List.length_map]
  refine brings_of rfl ?_
  walk_at "wp"
  refine ⟨Bool.and_eq_true_iff.mpr ⟨bnd_of (i := ((wayL w).length : Int) - 1) (by omega) (by omega), bnd_of (i := -1) (by omega) (by omega)⟩, ?_⟩
  walk_at "wp"
  refine loop_g (fun es ρ c2 => c2 = c ∧ ∃ (k : Nat) (q : D), (∃ u v1 v2, ρ = [some (.fr t), some (.fr (wayD w)), some (.fr q), u, v1, v2]) ∧ es = rng ((k : Int) - 1) (-1) k ∧ k ≤ w.length ∧ q.dok (n - k + 1) = true) ?_ ?_ ?_
  · refine ⟨rfl, w.length, q, ⟨_, _, _, rfl⟩, ?_, Nat.le_refl _, hq⟩
    show rng (((wayL w).length : Int) - 1) (-1) ((((wayL w).length : Int) - 1) - (-1)).toNat = _
    rw [hl, show (((w.length : Int) - 1) - (-1)).toNat = w.length by omega]
  · rintro d es ρ c2 ⟨rfl, k, q, ⟨u, v1, v2, rfl⟩, hes, hk, hq⟩
    cases k with
    | zero => cases hes
    | succ j =>
    obtain ⟨l, i, g1, g2, g3⟩ := sub_split (j := j) hs (by omega)
    have hes' : d :: es = .int (j : Int) :: rng ((j : Int) - 1) (-1) j := by
      rw [hes]
      show D.int (((j + 1 : Nat) : Int) - 1) :: rng (((j + 1 : Nat) : Int) - 1 + -1) (-1) j = _
      rw [show ((j + 1 : Nat) : Int) - 1 = (j : Int) by omega]
      rfl
    cases hes'
    refine ⟨_, rfl, ?_⟩
    have hi : (wayL w)[j]? = some (.int (i : Int)) := by
      unfold wayL
      rw [List.getElem?_map, g2]
      rfl
    obtain ⟨y1, y2⟩ := atV_of hi
    have sl : f_part [t, .tup (cutA (wayL w) none (some (j : Int)))] c2 = some (.ok (.tup l), c2) := by
      rw [cut_take, wayL_take]
      exact part_ok g1
    obtain ⟨sd1, sd2⟩ := sub_dok g1 ht
    have tl : (w.take j).length = j := by rw [List.length_take]; omega
    rw [tl] at sd2 sd1
    obtain ⟨m, hm⟩ : ∃ m, n - j = m + 1 := ⟨n - j - 1, by omega⟩
    rw [hm] at sd2
    obtain ⟨dl, de⟩ := dok_tup.mp sd2
    walk_at "wp"
    refine ⟨_, _, sl, ?_⟩
    walk_at "wp"
    refine ⟨y1, ?_⟩
    rw [y2]
    walk_at "wp"
    refine ⟨?_, ?_⟩
    · show decide ((cutA l none (some (i : Int))).length + 1 ≤ sizeLine) = true
      rw [cut_take]
      exact decide_eq_true (Nat.le_trans (show (l.take i).length + 1 ≤ 2000000 by rw [List.length_take]; omega) (by decide))
    walk_at "wp"
    refine ⟨?_, ?_⟩
    · show decide ((cutA l none (some (i : Int)) ++ [q]).length + (cutA l (some ((i : Int) + 1)) none).length ≤ sizeLine) = true
      rw [cut_take, show ((i : Int) + 1) = ((i + 1 : Nat) : Int) by omega, cut_drop]
      exact decide_eq_true (Nat.le_trans (show (l.take i ++ [q]).length + (l.drop (i + 1)).length ≤ 3000000 by rw [List.length_append, List.length_take, List.length_drop]; simp; omega) (by decide))
    walk_at "wp"
    have e : cutA l none (some (i : Int)) ++ [q] ++ cutA l (some ((i : Int) + 1)) none = (l.take i ++ [q]) ++ l.drop (i + 1) := by
      rw [cut_take, show ((i : Int) + 1) = ((i + 1 : Nat) : Int) by omega, cut_drop]
    refine ⟨rfl, j, .tup (cutA l none (some (i : Int)) ++ [q] ++ cutA l (some ((i : Int) + 1)) none), ⟨_, _, _, rfl⟩, rfl, by omega, ?_⟩
    rw [e]
    · rw [hm]
      refine dok_tup.mpr ⟨?_, fun x z => ?_⟩
      · rw [List.length_append, List.length_append, List.length_take, List.length_drop]; simp; omega
      · rcases List.mem_append.mp z with z | z
        · rcases List.mem_append.mp z with z | z
          · exact dok_up (Nat.le_succ _) (de x (List.mem_of_mem_take z))
          · have e : x = q := by simpa using z
            rw [e]
            exact dok_up (by omega) hq
        · exact dok_up (Nat.le_succ _) (de x (List.mem_of_mem_drop z))
  · rintro ρ c2 ⟨rfl, k, q, ⟨u, v1, v2, rfl⟩, hes, hk, hq⟩
    have k0 : k = 0 := by
      cases k with
      | zero => rfl
      | succ k => cases hes
    subst k0
    walk_at "wp"
    exact ⟨rfl, q, rfl, hq⟩
end Kx
end
section
set_option Elab.async false
set_option linter.all false
set_option maxRecDepth 100000
set_option maxHeartbeats 4000000
/-! Odd things. -/
namespace Kx
open PySem PySem.Spec PyProof.Rows L2 Fh
local macro_rules | `(tactic| walk_at "wp") => `(tactic| set_option smartUnfolding false in with_unfolding_all conv => whnf)
def f_odds : Fnl := runDef lib no0 noH d_law_odds_of
theorem odds_ok {p : D} {n : Nat} {c : HO} (hp : p.dok n = true) (hk : isI p = true ∨ isT p = true) : Brings f_odds [p] c (fun r c' => c' = c ∧ ∃ os, r = .ok (.lst os) ∧ os ≠ [] ∧ os.length ≤ 10 ∧ ∀ o ∈ os, o.dok (n + 1) = true) := by
  have pp := dok_plainD hp
  have so : ∀ s : Str, PyData.strOk s = true → (D.str s).dok (n + 1) = true := fun s h => h
  have s1 : PyData.strOk ("1" : Str) = true := by kernel_rfl
  have s2 : PyData.strOk ("" : Str) = true := by kernel_rfl
  refine brings_of rfl ?_
  cases p with
  | int i =>
    walk_at "wp"
    refine ⟨fun z => (by cases z), fun _ => ?_⟩
    walk_at "wp"
    refine ⟨(kv_str pp).1, ?_⟩
    walk_at "wp"
    refine ⟨fun z => ?_, fun _ => ?_⟩
    · replace z : kitV (D.int i).ty "str" = true := z
      rw [(kv_str pp).2] at z
      cases z
    walk_at "wp"
    refine ⟨(kv_int pp).1, ?_⟩
    walk_at "wp"
    refine ⟨fun _ => ?_, fun z => ?_⟩
    · walk_at "wp"
      refine ⟨rfl, [.bl (decide (i > 0)), .str "1", .tup [.int i], .lst [.int i], .str ""], rfl, by simp, by simp, fun o z => ?_⟩
      simp only [List.mem_cons, List.not_mem_nil, or_false] at z
      rcases z with rfl | rfl | rfl | rfl | rfl
      · rfl
      · exact s1
      · exact dok_tup.mpr ⟨by simp, fun d y => by have : d = .int i := (by simpa using y); subst this; rfl⟩
      · exact dok_lst.mpr ⟨by simp, fun d y => by have : d = .int i := (by simpa using y); subst this; rfl⟩
      · exact s2
    · replace z : kitV (D.int i).ty "int" = false := z
      rw [(kv_int pp).2] at z
      cases z
  | tup l =>
    walk_at "wp"
    refine ⟨fun z => (by cases z), fun _ => ?_⟩
    walk_at "wp"
    refine ⟨(kv_str pp).1, ?_⟩
    walk_at "wp"
    refine ⟨fun z => ?_, fun _ => ?_⟩
    · replace z : kitV (D.tup l).ty "str" = true := z
      rw [(kv_str pp).2] at z
      cases z
    walk_at "wp"
    refine ⟨(kv_int pp).1, ?_⟩
    walk_at "wp"
    refine ⟨fun z => ?_, fun _ => ?_⟩
    · replace z : kitV (D.tup l).ty "int" = true := z
      rw [(kv_int pp).2] at z
      cases z
    · walk_at "wp"
      refine ⟨rfl, [.lst l, .non, .int 0, .str "", .bl true], rfl, by simp, by simp, fun o z => ?_⟩
      simp only [List.mem_cons, List.not_mem_nil, or_false] at z
      rcases z with rfl | rfl | rfl | rfl | rfl
      · cases n with
        | zero => cases hp
        | succ n => exact dok_lst.mpr ⟨(dok_tup.mp hp).1, fun d y => dok_up (Nat.le_succ _) ((dok_tup.mp hp).2 d y)⟩
      · rfl
      · rfl
      · exact s2
      · rfl
  | _ => rcases hk with h | h <;> cases h
/-- only tuples and ints stand at the ways' ends -/
def TI (t : D) : Prop := ∀ w p, sub w t = some p → isI p = true ∨ isT p = true
def todd := addS "_law_ways_in" f_ways (addS "_law_odds_of" f_odds (addS "_law_set_in" f_set tset))
def f_odd : Fnl := runDef lib todd noH d_law_odd
theorem fmodR (x : Int) {n : Nat} (h : 0 < n) : 0 ≤ x.fmod n ∧ x.fmod n < n := ⟨Int.fmod_nonneg_of_pos x (by omega), Int.fmod_lt_of_pos x (by omega)⟩
theorem lvs_at {t : D} {n : Nat} {rest : List D} {i : Int} (hr : ∀ x ∈ rest, LvOk t x) (h0 : 0 ≤ i) (h1 : i < ((D.lst [wayD []] :: rest).length : Int)) :
    (atI (D.lst [wayD []] :: rest) i).isSome = true ∧ ∃ ws : List D, atV (D.lst [wayD []] :: rest) i = .lst ws ∧ ws ≠ [] ∧ ws.length ≤ nodes t ∧ ∀ e ∈ ws, ∃ w p, e = wayD w ∧ sub w t = some p := by
  obtain ⟨y1, y2⟩ := atV_in h0 h1
  refine ⟨y1, ?_⟩
  rcases List.mem_cons.mp y2 with y2 | y2
  · exact ⟨_, y2, by simp, nodes_pos t, fun e z => ⟨[], t, by simpa using z, rfl⟩⟩
  · obtain ⟨ps, e1, e2, e3, e4⟩ := hr _ y2
    refine ⟨_, e1, by simpa using e2, by rw [List.length_map]; exact e3, fun e z => ?_⟩
    obtain ⟨x, hx, rfl⟩ := List.mem_map.mp z
    obtain ⟨w, p, rfl, hs⟩ := e4 x hx
    exact ⟨w, p, rfl, hs⟩
theorem odd_ok {t : D} {n : Nat} {k : Int} {c : HO} (ht : t.dok n = true) (hn : n ≤ 40) (hN : nodes t ≤ 1000000) (hT : TI t) : Brings f_odd [t, .int k] c (fun r c' => c' = c ∧ ∃ d, r = .ok d ∧ d.dok (n + 1) = true) := by
  refine brings_of rfl ?_
  walk_at "wp"
  obtain ⟨r, c1, e1, rfl, rest, rfl, hrl, hr⟩ := ways_ok (c := c) ht (by omega) hN
  refine ⟨_, _, e1, ?_⟩
  walk_at "wp"
  have hlen : 0 < (D.lst [wayD []] :: rest).length := by simp
  refine ⟨decide_eq_true (show ((D.lst [wayD []] :: rest).length : Int) ≠ 0 by omega), ?_⟩
  walk_at "wp"
  obtain ⟨g1, g2⟩ := fmodR k hlen
  obtain ⟨y1, ws, y2, y3, y4, y5⟩ := lvs_at (n := n) hr g1 g2
  refine ⟨y1, ?_⟩
  walk_at "wp"
  refine ⟨decide_eq_true ⟨show 0 < ((D.lst [wayD []] :: rest).length : Int) by omega, log_small (by simp; omega)⟩, ?_⟩
  walk_at "wp"
  rw [y2]
  walk_at "wp"
  have hwl : 0 < ws.length := List.length_pos_iff.mpr y3
  refine ⟨decide_eq_true (show (ws.length : Int) ≠ 0 by omega), ?_⟩
  walk_at "wp"
  obtain ⟨g3, g4⟩ := fmodR (k / ((D.lst [wayD []] :: rest).length : Int)) hwl
  obtain ⟨z1, z2⟩ := atV_in g3 g4
  obtain ⟨w, p, z3, z4⟩ := y5 _ z2
  refine ⟨z1, ?_⟩
  rw [z3]
  walk_at "wp"
  refine ⟨_, _, part_ok z4, ?_⟩
  walk_at "wp"
  obtain ⟨sd1, sd2⟩ := sub_dok z4 ht
  obtain ⟨r, c2, e2, rfl, os, rfl, q1, q2, q3⟩ := odds_ok (c := c1) sd2 (hT w p z4)
  refine ⟨_, _, e2, ?_⟩
  walk_at "wp"
  refine ⟨decide_eq_true ⟨show 0 < (ws.length : Int) by omega, log_small (by simp; omega)⟩, ?_⟩
  walk_at "wp"
  have hol : 0 < os.length := List.length_pos_iff.mpr q1
  refine ⟨decide_eq_true (show (os.length : Int) ≠ 0 by omega), ?_⟩
  walk_at "wp"
  obtain ⟨g5, g6⟩ := fmodR (k / ((D.lst [wayD []] :: rest).length : Int) / (ws.length : Int)) hol
  obtain ⟨x1, x2⟩ := atV_in g5 g6
  refine ⟨x1, ?_⟩
  walk_at "wp"
  obtain ⟨r, c3, e3, rfl, d, rfl, hd⟩ := set_ok (c := c2) ht (by omega) z4 (q3 _ x2)
  refine ⟨_, _, e3, ?_⟩
  walk_at "wp"
  exact ⟨rfl, d, rfl, hd⟩
def tlist := addS "_law_ways_in" f_ways (addS "_law_set_in" f_set tset)
def f_listed : Fnl := runDef lib tlist noH d_law_listed
def WsOk (t x : D) : Prop := ∃ ws, x = .lst ws ∧ ws.length ≤ nodes t ∧ ∀ e ∈ ws, ∃ w p, e = wayD w ∧ sub w t = some p
def WsT (t x : D) : Prop := ∃ ws, x = .lst ws ∧ ws ≠ [] ∧ ws.length ≤ 1000000 ∧ ∀ e ∈ ws, ∃ w p, e = wayD w ∧ sub w t = some p ∧ isT p = true
theorem LvOk.ws {t x : D} (h : LvOk t x) : WsOk t x := by
  obtain ⟨ps, e1, e2, e3, e4⟩ := h
  refine ⟨_, e1, by rw [List.length_map]; exact e3, fun e z => ?_⟩
  obtain ⟨y, hy, rfl⟩ := List.mem_map.mp z
  obtain ⟨w, p, rfl, hs⟩ := e4 y hy
  exact ⟨w, p, rfl, hs⟩
theorem ws_dok {t : D} {n : Nat} {ws : List D} (ht : t.dok n = true) (hn : n ≤ 50) (hl : ws.length ≤ 1000000) (h : ∀ e ∈ ws, ∃ w p, e = wayD w ∧ sub w t = some p) : (D.lst ws).dok 2 = true := by
  refine dok_lst.mpr ⟨hl, fun e z => ?_⟩
  obtain ⟨w, p, rfl, hs⟩ := h e z
  have := (sub_dok hs ht).1
  exact wayD_dok (by omega)
theorem listed_ok {t : D} {n : Nat} {k : Int} {c : HO} (ht : t.dok n = true) (hn : n ≤ 40) (hN : nodes t ≤ 1000000) (hT : isT t = true) : Brings f_listed [t, .int k] c (fun r c' => c' = c ∧ ∃ d, r = .ok d ∧ d.dok (n + 1) = true) := by
  refine brings_of rfl ?_
  walk_at "wp"
  refine ⟨by kernel_rfl, ?_⟩
  walk_at "wp"
  obtain ⟨r, c1, e1, rfl, rest, rfl, hrl, hr⟩ := ways_ok (c := c) ht (by omega) hN
  refine ⟨_, _, e1, ?_⟩
  walk_at "wp"
  refine loop_g (fun es ρ c2 => c2 = c1 ∧ ∃ lv, (∃ u1 u3, ρ = [some (.fr t), some (.fr (.int k)), some (.ow lv), u1, none, u3]) ∧ (∀ x ∈ es, WsOk t x) ∧ (∀ x ∈ lv, WsT t x) ∧ lv.length + es.length ≤ 100 ∧ (lv ≠ [] ∨ ∃ r2, es = .lst [wayD []] :: r2)) ?_ ?_ ?_
  · refine ⟨rfl, [], ⟨_, _, rfl⟩, fun x z => ?_, by simp, by simp; omega, .inr ⟨rest, rfl⟩⟩
    rcases List.mem_cons.mp z with rfl | z
    · exact ⟨_, rfl, nodes_pos t, fun e z => ⟨[], t, by simpa using z, rfl⟩⟩
    · exact (hr x z).ws
  · rintro d es ρ c2 ⟨rfl, lv, ⟨u1, u3, rfl⟩, f1, f2, f3, f4⟩
    obtain ⟨ws, rfl, h1, h2⟩ := f1 d (by simp)
    refine ⟨_, rfl, ?_⟩
    walk_at "wp"
    refine lst_g (I := fun rs ds c3 => c3 = c2 ∧ rs.length + ds.length ≤ ws.length ∧ (∀ e ∈ ds, ∃ w p, e = wayD w ∧ sub w t = some p) ∧ (∀ e ∈ rs, ∃ w p, e = wayD w ∧ sub w t = some p ∧ isT p = true) ∧ (ws = [wayD []] → rs ≠ [] ∨ ds = [wayD []])) ?_ ?_ ?_
    · exact ⟨rfl, by simp, h2, by simp, fun z => .inr z⟩
    · rintro rs e ds c3 ⟨rfl, g1, g2, g3, g4⟩
      obtain ⟨w, p, rfl, hs⟩ := g2 e (by simp)
      obtain ⟨sd1, sd2⟩ := sub_dok hs ht
      refine ⟨_, rfl, runs_of ?_⟩
      walk_at "wp"
      refine ⟨_, _, part_ok hs, ?_⟩
      walk_at "wp"
      refine ⟨(kv_tuple (dok_plainD sd2)).1, ?_⟩
      walk_at "wp"
      refine ⟨fun z => runs_of ?_, fun z => ?_⟩
      · replace z : kitV p.ty "tuple" = true := z
        rw [(kv_tuple (dok_plainD sd2)).2] at z
        walk_at "wp"
        refine ⟨rfl, by simp at g1 ⊢; omega, fun e y => g2 e (by simp [y]), fun e y => ?_, fun _ => .inl (by simp)⟩
        rcases List.mem_append.mp y with y | y
        · exact g3 e y
        · exact ⟨w, p, by simpa using y, hs, z⟩
      · replace z : kitV p.ty "tuple" = false := z
        rw [(kv_tuple (dok_plainD sd2)).2] at z
        refine ⟨rfl, by simp at g1 ⊢; omega, fun e y => g2 e (by simp [y]), g3, fun y => ?_⟩
        rcases g4 y with q | q
        · exact .inl q
        · exfalso
          have q1 : wayD w = wayD [] := (List.cons.inj q).1
          have q2 : w = [] := by
            cases w with
            | nil => rfl
            | cons _ _ => cases q1
          subst q2
          cases hs
          rw [hT] at z
          cases z
    · rintro rs c3 ⟨rfl, g1, g2, g3, g4⟩
      have rl : rs.length ≤ 1000000 := by simp at g1; omega
      have rd : (D.lst rs).dok 2 = true := ws_dok ht (by omega) rl fun e z => by
        obtain ⟨w, p, a, b, _⟩ := g3 e z
        exact ⟨w, p, a, b⟩
      walk_at "wp"
      refine ⟨decide_eq_true (Nat.lt_of_le_of_lt rl (by decide)), ?_⟩
      walk_at "wp"
      refine ⟨Bool.and_eq_true_iff.mpr ⟨dok_eqs rd (by omega), rfl⟩, ?_⟩
      walk_at "wp"
      cases hrs : rs with
      | nil =>
        subst hrs
        refine ⟨fun z => (by cases z), fun _ => ?_⟩
        walk_at "wp"
        refine ⟨rfl, lv, ⟨_, _, rfl⟩, fun x z => f1 x (by simp [z]), f2, by simp at f3; omega, ?_⟩
        rcases f4 with f4 | ⟨r2, f4⟩
        · exact .inl f4
        · exfalso
          have e5 : ws = [wayD []] := by cases f4; rfl
          rcases g4 e5 with q | q
          · exact q rfl
          · cases q
      | cons r0 rs0 =>
        refine ⟨fun _ => ?_, fun z => (by cases z)⟩
        rw [← hrs]
        walk_at "wp"
        refine ⟨decide_eq_true (Nat.lt_of_le_of_lt (show lv.length ≤ 100 by omega) (by decide)), ?_⟩
        walk_at "wp"
        refine ⟨rfl, lv ++ [.lst rs], ⟨_, _, rfl⟩, fun x z => f1 x (by simp [z]), fun x z => ?_, by simp at f3 ⊢; omega, .inl (by simp)⟩
        rcases List.mem_append.mp z with z | z
        · exact f2 x z
        · exact ⟨rs, by simpa using z, by rw [hrs]; simp, rl, g3⟩
  · rintro ρ c2 ⟨rfl, lv, ⟨u1, u3, rfl⟩, f1, f2, f3, f4⟩
    have hne : lv ≠ [] := by
      rcases f4 with f4 | ⟨r2, f4⟩
      · exact f4
      · cases f4
    have hll : 0 < lv.length := List.length_pos_iff.mpr hne
    walk_at "wp"
    refine ⟨decide_eq_true (show (lv.length : Int) ≠ 0 by omega), ?_⟩
    walk_at "wp"
    obtain ⟨g1, g2⟩ := fmodR k hll
    obtain ⟨y1, y2⟩ := atV_in g1 g2
    obtain ⟨ws, y3, h0, h1, h2⟩ := f2 _ y2
    refine ⟨y1, ?_⟩
    walk_at "wp"
    refine ⟨decide_eq_true ⟨show 0 < (lv.length : Int) by omega, log_small (by simp; omega)⟩, ?_⟩
    walk_at "wp"
    rw [y3]
    walk_at "wp"
    have hwl : 0 < ws.length := List.length_pos_iff.mpr h0
    refine ⟨decide_eq_true (show (ws.length : Int) ≠ 0 by omega), ?_⟩
    walk_at "wp"
    obtain ⟨g3, g4⟩ := fmodR (k / (lv.length : Int)) hwl
    obtain ⟨z1, z2⟩ := atV_in g3 g4
    obtain ⟨w, p, z3, z4, z5⟩ := h2 _ z2
    refine ⟨z1, ?_⟩
    rw [z3]
    walk_at "wp"
    refine ⟨_, _, part_ok z4, ?_⟩
    obtain ⟨l, rfl⟩ := isT_tup z5
    obtain ⟨sd1, sd2⟩ := sub_dok z4 ht
    have ld : (D.lst l).dok (n - w.length + 1) = true := by
      cases hq : n - w.length with
      | zero => rw [hq] at sd2; cases sd2
      | succ q =>
        rw [hq] at sd2
        exact dok_lst.mpr ⟨(dok_tup.mp sd2).1, fun d y => dok_up (Nat.le_succ _) ((dok_tup.mp sd2).2 d y)⟩
    walk_at "wp"
    obtain ⟨r, c3, e3, rfl, d, rfl, hd⟩ := set_ok (c := c2) ht (by omega) z4 ld
    refine ⟨_, _, e3, ?_⟩
    walk_at "wp"
    exact ⟨rfl, d, rfl, hd⟩
end Kx
end
section
set_option Elab.async false
set_option linter.all false
set_option maxRecDepth 100000
set_option maxHeartbeats 4000000
/-! Truths in the place of numbers. -/
namespace Kx
open PySem PySem.Spec PyProof.Rows L2 Fh
local macro_rules | `(tactic| walk_at "wp") => `(tactic| set_option smartUnfolding false in with_unfolding_all conv => whnf)
def ttw := addS "_law_ways_in" f_ways (addS "_law_part_in" f_part (addS "_law_is_whole" f_whole no0))
def f_tways : Fnl := runDef lib ttw noH d_law_truth_ways
def WI (t e : D) : Prop := ∃ w i, e = wayD w ∧ sub w t = some (.int i)
theorem tways_ok {t : D} {n : Nat} {c : HO} (ht : t.dok n = true) (hn : n ≤ 40) (hN : nodes t ≤ 10000) : Brings f_tways [t] c (fun r c' => c' = c ∧ ∃ fs, r = .ok (.lst fs) ∧ fs.length ≤ 1000000 ∧ ∀ e ∈ fs, WI t e) := by
  refine brings_of rfl ?_
  walk_at "wp"
  refine ⟨by kernel_rfl, ?_⟩
  walk_at "wp"
  obtain ⟨r, c1, e1, rfl, rest, rfl, hrl, hr⟩ := ways_ok (c := c) ht (by omega) (by omega)
  refine ⟨_, _, e1, ?_⟩
  walk_at "wp"
  refine loop_g (fun es ρ c2 => c2 = c1 ∧ ∃ fs, (∃ u1 u2 u3, ρ = [some (.fr t), some (.ow fs), u1, u2, u3]) ∧ (∀ x ∈ es, WsOk t x) ∧ (∀ x ∈ fs, WI t x) ∧ fs.length + nodes t * es.length ≤ nodes t * 71) ?_ ?_ ?_
  · refine ⟨rfl, [], ⟨_, _, _, rfl⟩, fun x z => ?_, by simp, ?_⟩
    · rcases List.mem_cons.mp z with rfl | z
      · exact ⟨_, rfl, nodes_pos t, fun e z => ⟨[], t, by simpa using z, rfl⟩⟩
      · exact (hr x z).ws
    · show 0 + nodes t * (rest.length + 1) ≤ _
      rw [Nat.zero_add]
      exact Nat.mul_le_mul_left _ (by omega)
  · rintro d es ρ c2 ⟨rfl, fs, ⟨u1, u2, u3, rfl⟩, f1, f2, f3⟩
    obtain ⟨ws, rfl, h1, h2⟩ := f1 d (by simp)
    have f3' : fs.length + (nodes t + nodes t * es.length) ≤ nodes t * 71 := by
      have : nodes t * (es.length + 1) = nodes t * es.length + nodes t := Nat.mul_succ _ _
      simp only [List.length_cons] at f3
      omega
    refine ⟨_, rfl, ?_⟩
    walk_at "wp"
    refine loop_g (fun ds ρ c3 => c3 = c2 ∧ ∃ fs, (∃ u2 u3, ρ = [some (.fr t), some (.ow fs), some (.fr (.lst ws)), u2, u3]) ∧ (∀ e ∈ ds, ∃ w p, e = wayD w ∧ sub w t = some p) ∧ (∀ x ∈ fs, WI t x) ∧ fs.length + (ds.length + nodes t * es.length) ≤ nodes t * 71) ?_ ?_ ?_
    · exact ⟨rfl, fs, ⟨_, _, rfl⟩, h2, f2, by show fs.length + (ws.length + nodes t * es.length) ≤ _; omega⟩
    · rintro e ds ρ c3 ⟨rfl, fs, ⟨u2, u3, rfl⟩, g1, g2, g3⟩
      obtain ⟨w, p, rfl, hs⟩ := g1 e (by simp)
      obtain ⟨sd1, sd2⟩ := sub_dok hs ht
      have g3' : fs.length + 1 + (ds.length + nodes t * es.length) ≤ nodes t * 71 := by
        simp only [List.length_cons] at g3
        omega
      have skip : ∀ v : D, (∃ fs', (∃ u2 u3, [some (Sl.fr t), some (.ow fs), some (.fr (.lst ws)), some (.fr (wayD w)), some (.fr v)] = [some (.fr t), some (.ow fs'), some (.fr (.lst ws)), u2, u3]) ∧ (∀ e ∈ ds, ∃ w p, e = wayD w ∧ sub w t = some p) ∧ (∀ x ∈ fs', WI t x) ∧ fs'.length + (ds.length + nodes t * es.length) ≤ nodes t * 71) := fun v =>
        ⟨fs, ⟨_, _, rfl⟩, fun e y => g1 e (by simp [y]), g2, by omega⟩
      refine ⟨_, rfl, ?_⟩
      walk_at "wp"
      refine ⟨_, _, part_ok hs, ?_⟩
      walk_at "wp"
      refine ⟨_, _, whole_ok (dok_plainD sd2), ?_⟩
      walk_at "wp"
      refine ⟨fun z => ?_, fun z => ?_⟩
      · replace z : isI p = true := z
        cases p with
        | int i =>
          have hl : fs.length < sizeLine := Nat.lt_of_lt_of_le (show fs.length < nodes t * 71 by omega) (Nat.le_trans (show nodes t * 71 ≤ 710000 by omega) (by decide))
          have add : (∃ fs', (∃ u2 u3, [some (Sl.fr t), some (.ow (fs ++ [wayD w])), some (.fr (.lst ws)), some (.fr (wayD w)), some (.fr (D.int i))] = [some (.fr t), some (.ow fs'), some (.fr (.lst ws)), u2, u3]) ∧ (∀ e ∈ ds, ∃ w p, e = wayD w ∧ sub w t = some p) ∧ (∀ x ∈ fs', WI t x) ∧ fs'.length + (ds.length + nodes t * es.length) ≤ nodes t * 71) := by
            refine ⟨fs ++ [wayD w], ⟨_, _, rfl⟩, fun e y => g1 e (by simp [y]), fun x y => ?_, by simp; omega⟩
            rcases List.mem_append.mp y with y | y
            · exact g2 x y
            · exact ⟨w, i, by simpa using y, hs⟩
          walk_at "wp"
          refine ⟨fun _ => ?_, fun _ => ?_⟩
          · walk_at "wp"
            refine ⟨fun _ => ?_, fun z => (by cases z)⟩
            walk_at "wp"
            refine ⟨decide_eq_true hl, ?_⟩
            walk_at "wp"
            exact ⟨rfl, add⟩
          · walk_at "wp"
            refine ⟨fun _ => ?_, fun _ => ?_⟩
            · walk_at "wp"
              refine ⟨decide_eq_true hl, ?_⟩
              walk_at "wp"
              exact ⟨rfl, add⟩
            · walk_at "wp"
              exact ⟨rfl, skip _⟩
        | _ => cases z
      · walk_at "wp"
        refine ⟨fun z => (by cases z), fun _ => ?_⟩
        walk_at "wp"
        exact ⟨rfl, skip _⟩
    · rintro ρ c3 ⟨rfl, fs, ⟨u2, u3, rfl⟩, g1, g2, g3⟩
      walk_at "wp"
      refine ⟨rfl, fs, ⟨_, _, _, rfl⟩, fun x z => f1 x (by simp [z]), g2, ?_⟩
      simp only [List.length_nil] at g3
      omega
  · rintro ρ c2 ⟨rfl, fs, ⟨u1, u2, u3, rfl⟩, f1, f2, f3⟩
    walk_at "wp"
    refine ⟨rfl, fs, rfl, ?_, f2⟩
    simp only [List.length_nil] at f3
    omega
def ttr := addS "_law_truth_ways" f_tways (addS "_law_set_in" f_set tset)
def f_truth : Fnl := runDef lib ttr noH d_law_truth
theorem fs_dok {t : D} {n : Nat} {fs : List D} (ht : t.dok n = true) (hn : n ≤ 50) (hl : fs.length ≤ 1000000) (h : ∀ e ∈ fs, WI t e) : (D.lst fs).dok 2 = true := ws_dok ht hn hl fun e z => by
  obtain ⟨w, i, a, b⟩ := h e z
  exact ⟨w, _, a, b⟩
theorem truth_ok {t : D} {n : Nat} {k : Int} {c : HO} (ht : t.dok n = true) (hn : n ≤ 40) (hN : nodes t ≤ 10000) : Brings f_truth [t, .int k] c (fun r c' => c' = c ∧ ∃ d, r = .ok d ∧ d.dok (n + 1) = true) := by
  refine brings_of rfl ?_
  walk_at "wp"
  obtain ⟨r, c1, e1, rfl, fs, rfl, hl, hf⟩ := tways_ok (c := c) ht hn hN
  refine ⟨_, _, e1, ?_⟩
  walk_at "wp"
  refine ⟨Bool.and_eq_true_iff.mpr ⟨dok_eqs (fs_dok ht (by omega) hl hf) (by omega), rfl⟩, ?_⟩
  walk_at "wp"
  cases hfs : fs with
  | nil =>
    refine ⟨fun _ => ?_, fun z => (by cases z)⟩
    walk_at "wp"
    exact ⟨rfl, .non, rfl, rfl⟩
  | cons f0 fs0 =>
    refine ⟨fun z => (by cases z), fun _ => ?_⟩
    rw [← hfs]
    have hfl : 0 < fs.length := by rw [hfs]; simp
    clear hfs
    walk_at "wp"
    refine ⟨decide_eq_true (show (fs.length : Int) ≠ 0 by omega), ?_⟩
    walk_at "wp"
    obtain ⟨g1, g2⟩ := fmodR k hfl
    obtain ⟨y1, y2⟩ := atV_in g1 g2
    obtain ⟨w, i, y3, y4⟩ := hf _ y2
    refine ⟨y1, ?_⟩
    rw [y3]
    walk_at "wp"
    refine ⟨_, _, part_ok y4, ?_⟩
    walk_at "wp"
    obtain ⟨r, c2, e2, rfl, d, rfl, hd⟩ := set_ok (c := c1) (q := .bl (decide (i = 1))) ht (by omega) y4 rfl
    refine ⟨_, _, e2, ?_⟩
    walk_at "wp"
    exact ⟨rfl, d, rfl, hd⟩
end Kx
end
section
set_option Elab.async false
set_option linter.all false
set_option maxRecDepth 100000
set_option maxHeartbeats 4000000
/-! Bent nets. -/
namespace Kx
open PySem PySem.Spec PyProof.Rows L2 Fh
local macro_rules | `(tactic| walk_at "wp") => `(tactic| set_option smartUnfolding false in with_unfolding_all conv => whnf)
theorem dok1_tup {l : List D} (hl : l.length ≤ 1000000) (h : ∀ d ∈ l, d.dok 0 = true) : (D.tup l).dok 1 = true := dok_tup.mpr ⟨hl, h⟩
theorem dok1_lst {l : List D} (hl : l.length ≤ 1000000) (h : ∀ d ∈ l, d.dok 0 = true) : (D.lst l).dok 1 = true := dok_lst.mpr ⟨hl, h⟩
theorem strOk_of (s : String) : PyData.strOk (Str.ofString s) = true := by
  unfold PyData.strOk
  rw [Str.ofString_eq_toList]
  show (s.toList.map Char.toNat).toArray.all (fun x => decide (x < 1114112)) = true
  rw [List.all_toArray, List.all_eq_true]
  intro x hx
  obtain ⟨ch, _, rfl⟩ := List.mem_map.mp hx
  have h := ch.valid
  refine decide_eq_true ?_
  show ch.val.toNat < 1114112
  rcases h with h | h
  · exact Nat.lt_trans h (by decide)
  · exact h.2
theorem take_ex {a b t : Int} (ht : 0 < t) (hl : t.natAbs.log2 < 9000) : ∃ j a' b', f_take [.jar, .int t] (J a b) = some (.ok (.int j), J a' b') ∧ 0 ≤ j ∧ j < t := by
  obtain ⟨r, c, e, d, a', b', rfl, rfl, j, rfl, h1, h2⟩ := take_ok (a := a) (b := b) ht hl
  exact ⟨j, a', b', e, h1, h2⟩
theorem size_ex {a b k : Int} : ∃ j a' b', f_size [.jar, .int k] (J a b) = some (.ok (.int j), J a' b') := by
  obtain ⟨r, c, e, d, a', b', rfl, rfl, j, rfl⟩ := size_ok (a := a) (b := b) (k := k)
  exact ⟨j, a', b', e⟩
theorem one_ex {a b : Int} {l : List D} (n : Nat) (h0 : l ≠ []) (h1 : l.length < 2 ^ 100) (hl : ∀ d ∈ l, d.dok n = true) : ∃ d a' b', f_one [.jar, .lst l] (J a b) = some (.ok d, J a' b') ∧ d.dok n = true := by
  obtain ⟨r, c, e, d, a', b', rfl, rfl, h⟩ := one_ok (a := a) (b := b) h0 h1
  exact ⟨d, a', b', e, hl d h⟩
theorem mem1 {n : Nat} {x : D} (h : x.dok n = true) : ∀ d ∈ [x], d.dok n = true := fun d z => by
  have e : d = x := by simpa using z
  rw [e]
  exact h
theorem memc {n : Nat} {x : D} {l : List D} (h : x.dok n = true) (t : ∀ d ∈ l, d.dok n = true) : ∀ d ∈ x :: l, d.dok n = true := fun d z => by
  rcases List.mem_cons.mp z with e | z
  · rw [e]; exact h
  · exact t d z
theorem mem0 {n : Nat} : ∀ d ∈ ([] : List D), d.dok n = true := fun d z => by cases z
theorem i1 : (D.tup [.int 1]).dok 1 = true := dok1_tup (by simp) (mem1 rfl)
theorem i2 : (D.lst [.int 1]).dok 1 = true := dok1_lst (by simp) (mem1 rfl)
theorem s1 : (D.str "1").dok 1 = true := by
  show PyData.strOk _ = true
  kernel_rfl
def f_bneed : Fnl := runDef lib tn2 noH d_law_bent_need
theorem bneed_ok {a b : Int} : Brings f_bneed [.jar] (J a b) (JarQ fun d => d.dok 1 = true) := by
  obtain ⟨j, a1, b1, e1⟩ := size_ex (a := a) (b := b) (k := 0)
  obtain ⟨d, a2, b2, e2, hd⟩ := one_ex (a := a1) (b := b1) (l := [.int 0, .int 0, .int (-1), .int (-1 - j), .bl true, .bl false, .non, .str "1", .tup [.int 1], .lst [.int 1], .tup []]) 1 (by simp) (by simp)
    (memc rfl (memc rfl (memc rfl (memc rfl (memc rfl (memc rfl (memc rfl (memc s1 (memc i1 (memc i2 (mem1 rfl)))))))))))
  refine brings_of rfl ?_
  walk_at "wp"
  refine ⟨_, _, e1, ?_⟩
  walk_at "wp"
  refine ⟨_, _, e2, ?_⟩
  walk_at "wp"
  exact ⟨_, _, _, rfl, rfl, hd⟩
def f_bvotes : Fnl := runDef lib tn2 noH d_law_bent_votes
theorem bvotes_ok {a b : Int} {vs : List D} (hl : vs.length ≤ 40) (hv : ∀ v ∈ vs, isInt v) : Brings f_bvotes [.jar, .tup vs] (J a b) (JarQ fun d => d.dok 2 = true) := by
  have v0 : ∀ v ∈ vs, v.dok 0 = true := fun v z => by obtain ⟨i, rfl⟩ := hv v z; rfl
  have vd : (D.tup vs).dok 1 = true := dok1_tup (by omega) v0
  have sv : PyData.strOk ("votes" : Str) = true := by kernel_rfl
  have s1 : PyData.strOk ("1" : Str) = true := by kernel_rfl
  refine brings_of rfl ?_
  walk_at "wp"
  obtain ⟨r, c, e1, i, a1, b1, rfl, rfl, j, rfl, _, _⟩ := take_ok (a := a) (b := b) (t := 8) (by omega) (by decide)
  refine ⟨_, _, e1, ?_⟩
  walk_at "wp"
  refine ⟨fun _ => ?_, fun _ => ?_⟩
  · walk_at "wp"
    obtain ⟨r, c, e2, d, a2, b2, rfl, rfl, h⟩ := one_ok (a := a1) (b := b1) (l := [.lst vs, .non, .int vs.length, .str "votes", .bl true]) (by simp) (by simp)
    refine ⟨_, _, e2, ?_⟩
    walk_at "wp"
    refine ⟨_, _, _, rfl, rfl, ?_⟩
    simp only [List.mem_cons, List.not_mem_nil, or_false] at h
    rcases h with rfl | rfl | rfl | rfl | rfl
    · exact dok_up (by omega) (dok1_lst (by omega) v0)
    · rfl
    · rfl
    · exact sv
    · rfl
  · have more : ∀ (a1 b1 : Int), ∃ (m : Int) (a2 b2 : Int), 41 ≤ m ∧ m ≤ 999 ∧ f_one [.jar, .lst [.int 41, .int 42, .int 49, .int 64, .int 100, .int 200, .int 999]] (J a1 b1) = some (.ok (.int m), J a2 b2) := fun a1 b1 => by
      obtain ⟨r, c, e2, d, a2, b2, rfl, rfl, h⟩ := one_ok (a := a1) (b := b1) (l := [.int 41, .int 42, .int 49, .int 64, .int 100, .int 200, .int 999]) (by simp) (by simp)
      simp only [List.mem_cons, List.not_mem_nil, or_false] at h
      rcases h with rfl | rfl | rfl | rfl | rfl | rfl | rfl
      all_goals exact ⟨_, a2, b2, by omega, by omega, e2⟩
    have long : ∀ (a1 b1 : Int), ∃ (d : D) (a2 b2 : Int), d.dok 0 = true ∧ f_one [.jar, .lst [.int 0, .int 1, .int (-1), .non]] (J a1 b1) = some (.ok d, J a2 b2) := fun a1 b1 => by
      obtain ⟨r, c, e2, d, a2, b2, rfl, rfl, h⟩ := one_ok (a := a1) (b := b1) (l := [.int 0, .int 1, .int (-1), .non]) (by simp) (by simp)
      refine ⟨d, a2, b2, ?_, e2⟩
      simp only [List.mem_cons, List.not_mem_nil, or_false] at h
      rcases h with rfl | rfl | rfl | rfl <;> rfl
    walk_at "wp"
    refine ⟨fun _ => ?_, fun _ => ?_⟩
    · walk_at "wp"
      refine ⟨fun _ => ?_, fun z => (by cases z)⟩
      walk_at "wp"
      obtain ⟨m, a2, b2, m1, m2, e2⟩ := more a1 b1
      refine ⟨_, _, e2, ?_⟩
      walk_at "wp"
      obtain ⟨d, a3, b3, d0, e3⟩ := long a2 b2
      refine ⟨_, _, e3, ?_⟩
      walk_at "wp"
      refine ⟨decide_eq_true ⟨by simp, show 1 ≤ m - (vs.length : Int) by omega, show m - (vs.length : Int) ≤ 1000 by omega, by simp⟩, ?_⟩
      walk_at "wp"
      have fl : ((List.replicate (m - (vs.length : Int)).toNat [d]).flatten).length ≤ 1000 := by simp; omega
      have fm : ∀ e ∈ (List.replicate (m - (vs.length : Int)).toNat [d]).flatten, e.dok 0 = true := fun e z => by
        obtain ⟨l, h1, h2⟩ := List.mem_flatten.mp z
        have e1 := (List.mem_replicate.mp h1).2
        rw [e1] at h2
        have e4 : e = d := by simpa using h2
        rw [e4]
        exact d0
      refine ⟨decide_eq_true (Nat.le_trans (show vs.length + ((List.replicate (m - (vs.length : Int)).toNat [d]).flatten).length ≤ 2000 by omega) (by decide)), ?_⟩
      walk_at "wp"
      refine ⟨_, _, _, rfl, rfl, ?_⟩
      show (D.tup (vs ++ (List.replicate (m - (vs.length : Int)).toNat [d]).flatten)).dok 2 = true
      refine dok_up (by omega) (dok1_tup (by rw [List.length_append]; omega) fun e z => ?_)
      rcases List.mem_append.mp z with z | z
      · exact v0 e z
      · exact fm e z
    · walk_at "wp"
      refine ⟨Bool.and_eq_true_iff.mpr ⟨dok_eqs vd (by omega), rfl⟩, ?_⟩
      walk_at "wp"
      cases hvs : vs with
      | nil =>
        refine ⟨fun _ => ?_, fun z => (by cases z)⟩
        rw [← hvs]
        walk_at "wp"
        obtain ⟨m, a2, b2, m1, m2, e2⟩ := more a1 b1
        refine ⟨_, _, e2, ?_⟩
        walk_at "wp"
        obtain ⟨d, a3, b3, d0, e3⟩ := long a2 b2
        refine ⟨_, _, e3, ?_⟩
        walk_at "wp"
        refine ⟨decide_eq_true ⟨by simp, show 1 ≤ m - (vs.length : Int) by omega, show m - (vs.length : Int) ≤ 1000 by omega, by simp⟩, ?_⟩
        walk_at "wp"
        have fl : ((List.replicate (m - (vs.length : Int)).toNat [d]).flatten).length ≤ 1000 := by simp; omega
        have fm : ∀ e ∈ (List.replicate (m - (vs.length : Int)).toNat [d]).flatten, e.dok 0 = true := fun e z => by
          obtain ⟨l, h1, h2⟩ := List.mem_flatten.mp z
          have e1 := (List.mem_replicate.mp h1).2
          rw [e1] at h2
          have e4 : e = d := by simpa using h2
          rw [e4]
          exact d0
        refine ⟨decide_eq_true (Nat.le_trans (show vs.length + ((List.replicate (m - (vs.length : Int)).toNat [d]).flatten).length ≤ 2000 by omega) (by decide)), ?_⟩
        walk_at "wp"
        refine ⟨_, _, _, rfl, rfl, ?_⟩
        show (D.tup (vs ++ (List.replicate (m - (vs.length : Int)).toNat [d]).flatten)).dok 2 = true
        refine dok_up (by omega) (dok1_tup (by rw [List.length_append]; omega) fun e z => ?_)
        rcases List.mem_append.mp z with z | z
        · exact v0 e z
        · exact fm e z
      | cons v1 vs1 =>
        refine ⟨fun z => (by cases z), fun _ => ?_⟩
        rw [← hvs]
        have hvl : 0 < vs.length := by rw [hvs]; simp
        clear hvs
        walk_at "wp"
        obtain ⟨r, c, e2, i2, a2, b2, rfl, rfl, x, rfl, x0, x1⟩ := take_ok (a := a1) (b := b1) (t := (vs.length : Int)) (by omega) (log_small (by simp; omega))
        refine ⟨_, _, e2, ?_⟩
        walk_at "wp"
        obtain ⟨r, c, e3, other, a3, b3, rfl, rfl, h⟩ := one_ok (a := a2) (b := b2) (l := [.bl true, .bl false, .str "1", .tup [], .non, .lst [.int 1], .int (-1)]) (by simp) (by simp)
        have od : other.dok 1 = true := by
          simp only [List.mem_cons, List.not_mem_nil, or_false] at h
          rcases h with rfl | rfl | rfl | rfl | rfl | rfl | rfl
          all_goals first | rfl | exact s1 | exact dok1_lst (by simp) (fun d z => by have e : d = .int 1 := (by simpa using z); subst e; rfl)
        refine ⟨_, _, e3, ?_⟩
        walk_at "wp"
        refine ⟨fun _ => ?_, fun _ => ?_⟩
        · walk_at "wp"
          obtain ⟨r, c, e4, i4, a4, b4, rfl, rfl, s, rfl⟩ := size_ok (a := a3) (b := b3) (k := 0)
          refine ⟨_, _, e4, ?_⟩
          walk_at "wp"
          refine ⟨?_, ?_⟩
          · show decide ((cutA vs none (some x)).length + 1 ≤ sizeLine) = true
            obtain ⟨k, rfl⟩ := Int.eq_ofNat_of_zero_le x0
            rw [cut_take]
            exact decide_eq_true (Nat.le_trans (show (vs.take k).length + 1 ≤ 2000 by rw [List.length_take]; omega) (by decide))
          walk_at "wp"
          refine ⟨?_, ?_⟩
          · show decide ((cutA vs none (some x) ++ [D.int (-1 - s)]).length + (cutA vs (some (x + 1)) none).length ≤ sizeLine) = true
            obtain ⟨k, rfl⟩ := Int.eq_ofNat_of_zero_le x0
            rw [cut_take, show ((k : Int) + 1) = ((k + 1 : Nat) : Int) by omega, cut_drop]
            exact decide_eq_true (Nat.le_trans (show (vs.take k ++ [D.int (-1 - s)]).length + (vs.drop (k + 1)).length ≤ 3000 by rw [List.length_append, List.length_take, List.length_drop]; simp; omega) (by decide))
          walk_at "wp"
          refine ⟨_, _, _, rfl, rfl, ?_⟩
          show (D.tup (cutA vs none (some x) ++ [D.int (-1 - s)] ++ cutA vs (some (x + 1)) none)).dok 2 = true
          obtain ⟨k, rfl⟩ := Int.eq_ofNat_of_zero_le x0
          rw [cut_take, show ((k : Int) + 1) = ((k + 1 : Nat) : Int) by omega, cut_drop]
          refine dok_tup.mpr ⟨by rw [List.length_append, List.length_append, List.length_take, List.length_drop]; simp; omega, fun e z => ?_⟩
          rcases List.mem_append.mp z with z | z
          · rcases List.mem_append.mp z with z | z
            · exact dok_up (by omega) (v0 e (List.mem_of_mem_take z))
            · have e5 : e = D.int (-1 - s) := by simpa using z
              rw [e5]
              exact rfl
          · exact dok_up (by omega) (v0 e (List.mem_of_mem_drop z))
        · walk_at "wp"
          refine ⟨?_, ?_⟩
          · show decide ((cutA vs none (some x)).length + 1 ≤ sizeLine) = true
            obtain ⟨k, rfl⟩ := Int.eq_ofNat_of_zero_le x0
            rw [cut_take]
            exact decide_eq_true (Nat.le_trans (show (vs.take k).length + 1 ≤ 2000 by rw [List.length_take]; omega) (by decide))
          walk_at "wp"
          refine ⟨?_, ?_⟩
          · show decide ((cutA vs none (some x) ++ [other]).length + (cutA vs (some (x + 1)) none).length ≤ sizeLine) = true
            obtain ⟨k, rfl⟩ := Int.eq_ofNat_of_zero_le x0
            rw [cut_take, show ((k : Int) + 1) = ((k + 1 : Nat) : Int) by omega, cut_drop]
            exact decide_eq_true (Nat.le_trans (show (vs.take k ++ [other]).length + (vs.drop (k + 1)).length ≤ 3000 by rw [List.length_append, List.length_take, List.length_drop]; simp; omega) (by decide))
          walk_at "wp"
          refine ⟨_, _, _, rfl, rfl, ?_⟩
          show (D.tup (cutA vs none (some x) ++ [other] ++ cutA vs (some (x + 1)) none)).dok 2 = true
          obtain ⟨k, rfl⟩ := Int.eq_ofNat_of_zero_le x0
          rw [cut_take, show ((k : Int) + 1) = ((k + 1 : Nat) : Int) by omega, cut_drop]
          refine dok_tup.mpr ⟨by rw [List.length_append, List.length_append, List.length_take, List.length_drop]; simp; omega, fun e z => ?_⟩
          rcases List.mem_append.mp z with z | z
          · rcases List.mem_append.mp z with z | z
            · exact dok_up (by omega) (v0 e (List.mem_of_mem_take z))
            · have e5 : e = other := by simpa using z
              rw [e5]
              exact od
          · exact dok_up (by omega) (v0 e (List.mem_of_mem_drop z))
end Kx
end
section
set_option Elab.async false
set_option linter.all false
set_option maxRecDepth 100000
set_option maxHeartbeats 4000000
/-! Bent links, bent nets. -/
namespace Kx
open PySem PySem.Spec PyProof.Rows L2 Fh
local macro_rules | `(tactic| walk_at "wp") => `(tactic| set_option smartUnfolding false in with_unfolding_all conv => whnf)
theorem one_int {a b : Int} {l : List D} (h0 : l ≠ []) (h1 : l.length < 2 ^ 100) (hl : ∀ d ∈ l, isInt d) : ∃ i a' b', f_one [.jar, .lst l] (J a b) = some (.ok (.int i), J a' b') := by
  obtain ⟨r, c, e, d, a', b', rfl, rfl, h⟩ := one_ok (a := a) (b := b) h0 h1
  obtain ⟨i, rfl⟩ := hl d h
  exact ⟨i, a', b', e⟩
theorem ints1 (l : List Int) : ∀ d ∈ l.map D.int, isInt d := fun d z => by
  obtain ⟨i, _, rfl⟩ := List.mem_map.mp z
  exact ⟨i, rfl⟩
def f_blink : Fnl := runDef lib tn2 noH d_law_bent_link
theorem tt2 {x y : D} (hx : x.dok 0 = true) (hy : y.dok 0 = true) : (D.tup [x, y]).dok 1 = true := dok1_tup (by simp) (memc hx (mem1 hy))
theorem l2' {x y : D} (hx : x.dok 0 = true) (hy : y.dok 0 = true) : (D.lst [x, y]).dok 1 = true := dok1_lst (by simp) (memc hx (mem1 hy))
theorem sOk (s : String) : (D.str (Str.ofString s)).dok 0 = true := strOk_of s
theorem sOk1 (s : String) : (D.str (Str.ofString s)).dok 1 = true := strOk_of s
theorem blink_ok {a b x y n : Int} (hx0 : 0 ≤ x) (hx : x ≤ 40) (hy0 : 0 ≤ y) (hy : y ≤ 40) : Brings f_blink [.jar, .tup [.int x, .int y], .int n] (J a b) (JarQ fun d => d.dok 1 = true) := by
  obtain ⟨m, a1, b1, e1⟩ := one_int (a := a) (b := b) (l := [.int 0, .int 0, .int 1, .int 8, .int 40, .int (10 ^ 20)]) (by simp) (by simp) (ints1 [0, 0, 1, 8, 40, 10 ^ 20])
  obtain ⟨d, a2, b2, e2, hd⟩ := one_ex (a := a1) (b := b1) (l := [.tup [.int y, .int x], .tup [.int x, .int x], .tup [.int y, .int y], .tup [.int x, .int (n + m)], .tup [.int x, .int (n + m)], .tup [.int (-1), .int y], .tup [.int (-1 - x), .int y], .tup [.int x, .int y, .int y], .tup [.int x], .tup [], .int x, .non, .lst [.int x, .int y], .tup [.int x, .str (Str.ofString (toString y))], .tup [.int x, .non], .tup [.str (Str.ofString (toString x)), .int y], .tup [.bl false, .int y], .tup [.int x, .bl true], .str "ab", .tup [.int (n - 1), .int n]]) 1 (by simp) (by simp)
    (memc (tt2 rfl rfl) (memc (tt2 rfl rfl) (memc (tt2 rfl rfl) (memc (tt2 rfl rfl) (memc (tt2 rfl rfl) (memc (tt2 rfl rfl) (memc (tt2 rfl rfl) (memc (dok1_tup (by simp) (memc rfl (memc rfl (mem1 rfl)))) (memc (dok1_tup (by simp) (mem1 rfl)) (memc (dok1_tup (by simp) mem0) (memc rfl (memc rfl (memc (l2' rfl rfl) (memc (tt2 rfl (sOk _)) (memc (tt2 rfl rfl) (memc (tt2 (sOk _) rfl) (memc (tt2 rfl rfl) (memc (tt2 rfl rfl) (memc (sOk1 _) (mem1 (tt2 rfl rfl)))))))))))))))))))))
  have small : ∀ i : Int, 0 ≤ i → i ≤ 40 → decide (i.natAbs.log2 < 1920) = true := fun i h0 h1 => by
    refine decide_eq_true ?_
    by_cases z : i.natAbs = 0
    · rw [z]; decide
    · have := (Nat.log2_lt (k := 10) z).mpr (Nat.lt_of_le_of_lt (show i.natAbs ≤ 40 by omega) (by decide))
      omega
  refine brings_of rfl ?_
  walk_at "wp"
  refine ⟨by kernel_rfl, ?_⟩
  walk_at "wp"
  refine ⟨_, _, e1, ?_⟩
  walk_at "wp"
  refine ⟨small y hy0 hy, ?_⟩
  walk_at "wp"
  refine ⟨small x hx0 hx, ?_⟩
  walk_at "wp"
  refine ⟨_, _, e2, ?_⟩
  walk_at "wp"
  exact ⟨_, _, _, rfl, rfl, hd⟩
theorem cutA_mem {l : List D} {lo hi : Option Int} : ∀ d ∈ cutA l lo hi, d ∈ l := fun d z => by
  unfold cutA at z
  exact List.mem_of_mem_drop (List.mem_of_mem_take z)
theorem cutA_len {l : List D} {lo hi : Option Int} : (cutA l lo hi).length ≤ l.length := by
  unfold cutA
  rw [List.length_take, List.length_drop]
  omega
/-- few things, of which each is plain -/
def Sm (n : Nat) (l : List D) : Prop := l.length ≤ n ∧ ∀ d ∈ l, d.dok 1 = true
theorem Sm.app {n m : Nat} {a b : List D} (h : Sm n a) (k : Sm m b) : Sm (n + m) (a ++ b) := ⟨by have := h.1; have := k.1; rw [List.length_append]; omega, fun d z => by
  rcases List.mem_append.mp z with z | z
  · exact h.2 d z
  · exact k.2 d z⟩
theorem Sm.cut {n : Nat} {l : List D} (h : Sm n l) (lo hi : Option Int) : Sm n (cutA l lo hi) := ⟨Nat.le_trans cutA_len h.1, fun d z => h.2 d (cutA_mem d z)⟩
theorem Sm.one {d : D} (h : d.dok 1 = true) : Sm 1 [d] := ⟨by simp, mem1 h⟩
theorem Sm.two {d e : D} (h : d.dok 1 = true) (k : e.dok 1 = true) : Sm 2 [d, e] := ⟨by simp, memc h (mem1 k)⟩
theorem Sm.req {n m : Nat} {a b : List D} (h : Sm n a) (k : Sm m b) (z : n + m ≤ 100000) : decide (a.length + b.length ≤ sizeLine) = true :=
  decide_eq_true (Nat.le_trans (show a.length + b.length ≤ 100000 by have := h.1; have := k.1; omega) (by decide))
theorem Sm.dok {n : Nat} {l : List D} (h : Sm n l) (z : n ≤ 100000) : (D.tup l).dok 2 = true := dok_tup.mpr ⟨by have := h.1; omega, h.2⟩
def tb := addS "_law_bent_link" f_blink tn2
def f_bpairs : Fnl := runDef lib tb noH d_law_bent_pairs
theorem isPr_dok {d : D} (h : isPr d) : d.dok 1 = true := by
  obtain ⟨x, y, rfl, _⟩ := h
  exact tt2 rfl rfl
theorem bpairs_ok {a b n : Int} {ps : List D} (hl : ps.length ≤ 1600) (hp : ∀ p ∈ ps, isPr p) : Brings f_bpairs [.jar, .tup ps, .int n] (J a b) (JarQ fun d => d.dok 2 = true) := by
  have sm : Sm 1600 ps := ⟨hl, fun d z => isPr_dok (hp d z)⟩
  have pd : (D.tup ps).dok 2 = true := sm.dok (by omega)
  have pl : (D.lst ps).dok 2 = true := dok_lst.mpr ⟨by omega, sm.2⟩
  obtain ⟨way, a1, b1, e1, w1, w2⟩ := take_ex (a := a) (b := b) (t := 8) (by omega) (by decide)
  obtain ⟨d0, a2, b2, e2, hd0⟩ := one_ex (a := a1) (b := b1) (l := [.lst ps, .non, .int 0, .str "links", .bl false]) 2 (by simp) (by simp) (memc pl (memc rfl (memc rfl (memc (strOk_of _) (mem1 rfl)))))
  refine brings_of rfl ?_
  walk_at "wp"
  refine ⟨_, _, e1, ?_⟩
  walk_at "wp"
  refine ⟨fun _ => ?_, fun _ => ?_⟩
  · walk_at "wp"
    refine ⟨_, _, e2, ?_⟩
    walk_at "wp"
    exact ⟨_, _, _, rfl, rfl, hd0⟩
  · walk_at "wp"
    refine ⟨Bool.and_eq_true_iff.mpr ⟨dok_eqs pd (by omega), rfl⟩, ?_⟩
    walk_at "wp"
    cases hps : ps with
    | nil =>
      refine ⟨fun _ => ?_, fun z => (by cases z)⟩
      obtain ⟨x, a3, b3, e3, _, _⟩ := take_ex (a := a1) (b := b1) (t := 2) (by omega) (by decide)
      walk_at "wp"
      refine ⟨_, _, e3, ?_⟩
      walk_at "wp"
      exact ⟨_, _, _, rfl, rfl, (Sm.one (tt2 rfl rfl)).dok (by omega)⟩
    | cons p0 ps0 =>
      refine ⟨fun z => (by cases z), fun _ => ?_⟩
      rw [← hps]
      have hpl : 0 < ps.length := by rw [hps]; simp
      clear hps
      obtain ⟨k, a3, b3, e3, k0, k1⟩ := take_ex (a := a1) (b := b1) (t := (ps.length : Int)) (by omega) (log_small (by simp; omega))
      obtain ⟨y1, y2⟩ := atV_in (l := ps) k0 k1
      obtain ⟨x, y, y3, x0, x40, y0, y40⟩ := hp _ y2
      have hh : (D.tup [.int x, .int y]).dok 1 = true := tt2 rfl rfl
      have A := sm.cut none (some k)
      have B := sm.cut (some (k + 1)) none
      walk_at "wp"
      refine ⟨_, _, e3, ?_⟩
      walk_at "wp"
      refine ⟨y1, ?_⟩
      rw [y3]
      walk_at "wp"
      refine ⟨fun _ => ?_, fun _ => ?_⟩
      · walk_at "wp"
        refine ⟨A.req (Sm.two hh hh) (by omega), ?_⟩
        walk_at "wp"
        refine ⟨(A.app (Sm.two hh hh)).req B (by omega), ?_⟩
        walk_at "wp"
        exact ⟨_, _, _, rfl, rfl, ((A.app (Sm.two hh hh)).app B).dok (by omega)⟩
      walk_at "wp"
      refine ⟨fun _ => ?_, fun _ => ?_⟩
      · walk_at "wp"
        refine ⟨A.req (B.cut none (some 1)) (by omega), ?_⟩
        walk_at "wp"
        refine ⟨(A.app (B.cut none (some 1))).req (Sm.one hh) (by omega), ?_⟩
        walk_at "wp"
        refine ⟨((A.app (B.cut none (some 1))).app (Sm.one hh)).req (B.cut (some 1) none) (by omega), ?_⟩
        walk_at "wp"
        exact ⟨_, _, _, rfl, rfl, (((A.app (B.cut none (some 1))).app (Sm.one hh)).app (B.cut (some 1) none)).dok (by omega)⟩
      walk_at "wp"
      refine ⟨fun _ => ?_, fun _ => ?_⟩
      · walk_at "wp"
        refine ⟨A.req B (by omega), ?_⟩
        walk_at "wp"
        refine ⟨(A.app B).req (Sm.one hh) (by omega), ?_⟩
        walk_at "wp"
        exact ⟨_, _, _, rfl, rfl, ((A.app B).app (Sm.one hh)).dok (by omega)⟩
      walk_at "wp"
      refine ⟨fun _ => ?_, fun _ => ?_⟩
      · walk_at "wp"
        refine ⟨(Sm.one hh).req A (by omega), ?_⟩
        walk_at "wp"
        refine ⟨((Sm.one hh).app A).req B (by omega), ?_⟩
        walk_at "wp"
        exact ⟨_, _, _, rfl, rfl, (((Sm.one hh).app A).app B).dok (by omega)⟩
      · have bl : ∃ d a' b', f_blink [.jar, .tup [.int x, .int y], .int n] (J a3 b3) = some (.ok d, J a' b') ∧ d.dok 1 = true := by
          obtain ⟨r, c, e, d, a', b', rfl, rfl, h⟩ := blink_ok (a := a3) (b := b3) (n := n) x0 x40 y0 y40
          exact ⟨d, a', b', e, h⟩
        obtain ⟨d, a4, b4, e4, hd⟩ := bl
        walk_at "wp"
        refine ⟨_, _, e4, ?_⟩
        walk_at "wp"
        refine ⟨A.req (Sm.one hd) (by omega), ?_⟩
        walk_at "wp"
        refine ⟨(A.app (Sm.one hd)).req B (by omega), ?_⟩
        walk_at "wp"
        exact ⟨_, _, _, rfl, rfl, ((A.app (Sm.one hd)).app B).dok (by omega)⟩
end Kx
end
section
set_option Elab.async false
set_option linter.all false
set_option maxRecDepth 100000
set_option maxHeartbeats 4000000
/-! Bent nets. -/
namespace Kx
open PySem PySem.Spec PyProof.Rows L2 Fh
local macro_rules | `(tactic| walk_at "wp") => `(tactic| set_option smartUnfolding false in with_unfolding_all conv => whnf)
theorem TI_int {i : Int} : TI (.int i) := fun w p h => by
  cases w with
  | nil => cases h; exact .inl rfl
  | cons j w => cases h
theorem TI_tup {l : List D} (h : ∀ e ∈ l, TI e) : TI (.tup l) := fun w p hs => by
  cases w with
  | nil => cases hs; exact .inr rfl
  | cons j w =>
    obtain ⟨m, e, h1, h2, h3⟩ := sub_cons hs
    cases h1
    exact h e (List.mem_of_getElem? h2) w p h3
theorem nodesL_le {n : Nat} : ∀ {l : List D}, (∀ d ∈ l, nodes d ≤ n) → nodesL l ≤ n * l.length
  | [], _ => Nat.zero_le _
  | d :: l, h => by
    have h1 := h d (by simp)
    have h2 := nodesL_le (l := l) fun e z => h e (by simp [z])
    show nodes d + nodesL l ≤ n * (l.length + 1)
    rw [Nat.mul_succ]
    omega
structure Net (t : D) : Prop where
  dok : t.dok 3 = true
  ti : TI t
  nd : nodes t ≤ 10000
  tup : isT t = true
theorem net_of {t : D} (h : NetP t) : Net t := by
  obtain ⟨vs, ps, i, rfl, h1, h2, h3, h4⟩ := h
  have v0 : ∀ v ∈ vs, v.dok 0 = true := fun v z => by obtain ⟨i, rfl⟩ := h2 v z; rfl
  have dv : (D.tup vs).dok 2 = true := dok_up (by omega) (dok1_tup (by omega) v0)
  have dp : (D.tup ps).dok 2 = true := dok_tup.mpr ⟨by omega, fun d z => isPr_dok (h4 d z)⟩
  refine ⟨dok_tup.mpr ⟨by simp, memc dv (memc dp (mem1 rfl))⟩, ?_, ?_, rfl⟩
  · refine TI_tup fun e z => ?_
    simp only [List.mem_cons, List.not_mem_nil, or_false] at z
    rcases z with rfl | rfl | rfl
    · exact TI_tup fun e z => by obtain ⟨i, rfl⟩ := h2 e z; exact TI_int
    · refine TI_tup fun e z => ?_
      obtain ⟨x, y, rfl, _⟩ := h4 e z
      refine TI_tup fun e z => ?_
      simp only [List.mem_cons, List.not_mem_nil, or_false] at z
      rcases z with rfl | rfl <;> exact TI_int
    · exact TI_int
  · have a := nodesL_le (n := 1) (l := vs) fun d z => by obtain ⟨i, rfl⟩ := h2 d z; exact Nat.le_refl _
    have b := nodesL_le (n := 3) (l := ps) fun d z => by obtain ⟨x, y, rfl, _⟩ := h4 d z; exact Nat.le_refl _
    have e : nodes (.tup [.tup vs, .tup ps, .int i]) = 1 + ((1 + nodesL vs) + ((1 + nodesL ps) + (1 + 0))) := rfl
    omega
def tnet := addS "_law_odd" f_odd (addS "_law_listed" f_listed (addS "_law_truth_ways" f_tways (addS "_law_truth" f_truth (addS "_law_bent_pairs" f_bpairs (addS "_law_bent_need" f_bneed (addS "_law_bent_votes" f_bvotes tn2))))))
def f_bnet : Fnl := runDef lib tnet noH d_law_bent_net
def DokQ (n : Nat) (o : Option (Res × HO)) : Prop := ∃ d a' b', o = some (.ok d, J a' b') ∧ d.dok n = true
theorem DokQ.of {n : Nat} {f : Fnl} {ds : List D} {c : HO} (h : Brings f ds c (JarQ fun d => d.dok n = true)) : DokQ n (f ds c) := by
  obtain ⟨r, c, e, d, a', b', rfl, rfl, h⟩ := h
  exact ⟨d, a', b', e, h⟩
theorem keepQ {n : Nat} {f : Fnl} {ds : List D} {c : HO} (h : Brings f ds c (fun r c' => c' = c ∧ ∃ d, r = .ok d ∧ d.dok n = true)) : ∃ d, f ds c = some (.ok d, c) ∧ d.dok n = true := by
  obtain ⟨r, c, e, rfl, d, rfl, h⟩ := h
  exact ⟨d, e, h⟩
theorem bnet_ok {a b : Int} {t : D} (h : NetP t) : Brings f_bnet [.jar, t] (J a b) (JarQ fun d => d.dok 4 = true) := by
  have N := net_of h
  obtain ⟨vs, ps, i, rfl, h1, h2, h3, h4⟩ := h
  have v0 : ∀ v ∈ vs, v.dok 0 = true := fun v z => by obtain ⟨i, rfl⟩ := h2 v z; rfl
  have dv : (D.tup vs).dok 2 = true := dok_up (by omega) (dok1_tup (by omega) v0)
  have dp : (D.tup ps).dok 2 = true := dok_tup.mpr ⟨by omega, fun d z => isPr_dok (h4 d z)⟩
  have nl : ∀ d ∈ [D.tup vs, .tup ps, .int i], d.dok 2 = true := memc dv (memc dp (mem1 rfl))
  obtain ⟨way, a1, b1, e1, w1, w2⟩ := take_ex (a := a) (b := b) (t := 9) (by omega) (by decide)
  obtain ⟨num, a2, b2, e2, _, _⟩ := take_ex (a := a1) (b := b1) (t := 10 ^ 9) (by decide) (by decide)
  obtain ⟨d0, a3, b3, e3, hd0⟩ := one_ex (a := a2) (b := b2) (l := [.tup (cutA [.tup vs, .tup ps, .int i] none (some 2)), .tup ([.tup vs, .tup ps, .int i] ++ [.int 1]), .tup [.tup [.tup vs, .tup ps, .int i]], .tup [], .lst [.tup vs, .tup ps, .int i], .non, .int 3, .bl true, .str "net", .tup [D.tup vs, .tup ps, .int i].reverse, .lst [.tup [.tup vs, .tup ps, .int i]]]) 4 (by simp) (by simp)
    (memc (dok_tup.mpr ⟨Nat.le_trans cutA_len (by simp), fun d z => dok_up (by omega) (nl d (cutA_mem d z))⟩)
    (memc (dok_tup.mpr ⟨by simp, fun d z => by
      rcases List.mem_append.mp z with z | z
      · exact dok_up (by omega) (nl d z)
      · exact mem1 (n := 3) (x := .int 1) rfl d z⟩)
    (memc (dok_tup.mpr ⟨by simp, mem1 N.dok⟩)
    (memc rfl
    (memc (dok_lst.mpr ⟨by simp, fun d z => dok_up (by omega) (nl d z)⟩)
    (memc rfl (memc rfl (memc rfl (memc (strOk_of _)
    (memc (dok_tup.mpr ⟨by simp, fun d z => dok_up (by omega) (nl d (List.mem_reverse.mp z))⟩)
    (mem1 (dok_lst.mpr ⟨by simp, mem1 N.dok⟩))))))))))))
  obtain ⟨d1, e4, hd1⟩ := keepQ (odd_ok (k := num) (c := J a2 b2) N.dok (by omega) (by have := N.nd; omega) N.ti)
  obtain ⟨d2, e5, hd2⟩ := keepQ (listed_ok (k := num) (c := J a2 b2) N.dok (by omega) (by have := N.nd; omega) N.tup)
  obtain ⟨d3, e6, hd3⟩ := keepQ (truth_ok (k := num) (c := J a2 b2) N.dok (by omega) N.nd)
  have tw := tways_ok (c := J a2 b2) N.dok (by omega) N.nd
  have twx : ∃ fs, f_tways [.tup [.tup vs, .tup ps, .int i]] (J a2 b2) = some (.ok (.lst fs), J a2 b2) ∧ (D.lst fs).dok 2 = true := by
    obtain ⟨r, c, e, rfl, fs, rfl, g1, g2⟩ := tw
    exact ⟨fs, e, fs_dok N.dok (by omega) g1 g2⟩
  obtain ⟨fs, e7, hfs⟩ := twx
  have i0 : (D.int i).dok 0 = true := rfl
  have bp : ∀ a b, DokQ 2 (f_bpairs [.jar, .tup ps, .int vs.length] (J a b)) := fun a b => DokQ.of (bpairs_ok h3 h4)
  have bn : ∀ a b, DokQ 1 (f_bneed [.jar] (J a b)) := fun a b => DokQ.of bneed_ok
  have bv : ∀ a b, DokQ 2 (f_bvotes [.jar, .tup vs] (J a b)) := fun a b => DokQ.of (bvotes_ok h1 h2)
  obtain ⟨wh, a6, b6, e8, _, _⟩ := take_ex (a := a2) (b := b2) (t := 7) (by omega) (by decide)
  obtain ⟨dp2, a7, b7, e11, hp2⟩ := bp a6 b6
  obtain ⟨dn1, n1a, n1b, en1, hn1⟩ := bn a7 b7
  obtain ⟨dn2, n2a, n2b, en2, hn2⟩ := bn a6 b6
  obtain ⟨dv1, _, _, ev1, hv1⟩ := bv n1a n1b
  obtain ⟨dv2, _, _, ev2, hv2⟩ := bv a7 b7
  obtain ⟨dv3, _, _, ev3, hv3⟩ := bv n2a n2b
  obtain ⟨dv4, _, _, ev4, hv4⟩ := bv a6 b6
  refine brings_of rfl ?_
  walk_at "wp"
  refine ⟨_, _, e1, ?_⟩
  walk_at "wp"
  refine ⟨by kernel_rfl, ?_⟩
  walk_at "wp"
  refine ⟨_, _, e2, ?_⟩
  walk_at "wp"
  refine ⟨fun _ => ?_, fun _ => ?_⟩
  · walk_at "wp"
    refine ⟨by kernel_rfl, ?_⟩
    walk_at "wp"
    refine ⟨_, _, e3, ?_⟩
    walk_at "wp"
    exact ⟨_, _, _, rfl, rfl, hd0⟩
  walk_at "wp"
  refine ⟨fun _ => ?_, fun _ => ?_⟩
  · walk_at "wp"
    refine ⟨_, _, e4, ?_⟩
    walk_at "wp"
    exact ⟨_, _, _, rfl, rfl, hd1⟩
  walk_at "wp"
  refine ⟨fun _ => ?_, fun _ => ?_⟩
  · walk_at "wp"
    refine ⟨_, _, e5, ?_⟩
    walk_at "wp"
    exact ⟨_, _, _, rfl, rfl, hd2⟩
  walk_at "wp"
  refine ⟨fun _ => ?_, fun _ => ?_⟩
  · walk_at "wp"
    refine ⟨_, _, e7, ?_⟩
    walk_at "wp"
    refine ⟨Bool.and_eq_true_iff.mpr ⟨dok_eqs hfs (by omega), rfl⟩, ?_⟩
    walk_at "wp"
    refine ⟨fun _ => ?_, fun _ => ?_⟩
    · walk_at "wp"
      refine ⟨_, _, e6, ?_⟩
      walk_at "wp"
      exact ⟨_, _, _, rfl, rfl, hd3⟩
    · walk_at "wp"
      refine ⟨_, _, e8, ?_⟩
      walk_at "wp"
      refine ⟨by kernel_rfl, ?_⟩
      walk_at "wp"
      refine ⟨by kernel_rfl, ?_⟩
      walk_at "wp"
      refine ⟨fun _ => ?_, fun _ => ?_⟩
      · walk_at "wp"
        refine ⟨_, _, e11, ?_⟩
        walk_at "wp"
        refine ⟨by kernel_rfl, ?_⟩
        walk_at "wp"
        refine ⟨fun _ => ?_, fun _ => ?_⟩
        · walk_at "wp"
          refine ⟨_, _, en1, ?_⟩
          walk_at "wp"
          refine ⟨by kernel_rfl, ?_⟩
          walk_at "wp"
          refine ⟨fun _ => ?_, fun _ => ?_⟩
          · walk_at "wp"
            refine ⟨_, _, ev1, ?_⟩
            walk_at "wp"
            exact ⟨_, _, _, rfl, rfl, dok_tup.mpr ⟨by simp, memc (dok_up (by omega) hv1) (memc (dok_up (by omega) hp2) (mem1 (dok_up (by omega) hn1)))⟩⟩
          · walk_at "wp"
            exact ⟨_, _, _, rfl, rfl, dok_tup.mpr ⟨by simp, memc (dok_up (by omega) dv) (memc (dok_up (by omega) hp2) (mem1 (dok_up (by omega) hn1)))⟩⟩
        · walk_at "wp"
          refine ⟨by kernel_rfl, ?_⟩
          walk_at "wp"
          refine ⟨fun _ => ?_, fun _ => ?_⟩
          · walk_at "wp"
            refine ⟨_, _, ev2, ?_⟩
            walk_at "wp"
            exact ⟨_, _, _, rfl, rfl, dok_tup.mpr ⟨by simp, memc (dok_up (by omega) hv2) (memc (dok_up (by omega) hp2) (mem1 (dok_up (by omega) i0)))⟩⟩
          · walk_at "wp"
            exact ⟨_, _, _, rfl, rfl, dok_tup.mpr ⟨by simp, memc (dok_up (by omega) dv) (memc (dok_up (by omega) hp2) (mem1 (dok_up (by omega) i0)))⟩⟩
      · walk_at "wp"
        refine ⟨by kernel_rfl, ?_⟩
        walk_at "wp"
        refine ⟨fun _ => ?_, fun _ => ?_⟩
        · walk_at "wp"
          refine ⟨_, _, en2, ?_⟩
          walk_at "wp"
          refine ⟨by kernel_rfl, ?_⟩
          walk_at "wp"
          refine ⟨fun _ => ?_, fun _ => ?_⟩
          · walk_at "wp"
            refine ⟨_, _, ev3, ?_⟩
            walk_at "wp"
            exact ⟨_, _, _, rfl, rfl, dok_tup.mpr ⟨by simp, memc (dok_up (by omega) hv3) (memc (dok_up (by omega) dp) (mem1 (dok_up (by omega) hn2)))⟩⟩
          · walk_at "wp"
            exact ⟨_, _, _, rfl, rfl, dok_tup.mpr ⟨by simp, memc (dok_up (by omega) dv) (memc (dok_up (by omega) dp) (mem1 (dok_up (by omega) hn2)))⟩⟩
        · walk_at "wp"
          refine ⟨by kernel_rfl, ?_⟩
          walk_at "wp"
          refine ⟨fun _ => ?_, fun _ => ?_⟩
          · walk_at "wp"
            refine ⟨_, _, ev4, ?_⟩
            walk_at "wp"
            exact ⟨_, _, _, rfl, rfl, dok_tup.mpr ⟨by simp, memc (dok_up (by omega) hv4) (memc (dok_up (by omega) dp) (mem1 (dok_up (by omega) i0)))⟩⟩
          · walk_at "wp"
            exact ⟨_, _, _, rfl, rfl, dok_tup.mpr ⟨by simp, memc (dok_up (by omega) dv) (memc (dok_up (by omega) dp) (mem1 (dok_up (by omega) i0)))⟩⟩
  · walk_at "wp"
    refine ⟨fun z => (by cases z), fun _ => ?_⟩
    walk_at "wp"
    refine ⟨_, _, e8, ?_⟩
    walk_at "wp"
    refine ⟨by kernel_rfl, ?_⟩
    walk_at "wp"
    refine ⟨by kernel_rfl, ?_⟩
    walk_at "wp"
    refine ⟨fun _ => ?_, fun _ => ?_⟩
    · walk_at "wp"
      refine ⟨_, _, e11, ?_⟩
      walk_at "wp"
      refine ⟨by kernel_rfl, ?_⟩
      walk_at "wp"
      refine ⟨fun _ => ?_, fun _ => ?_⟩
      · walk_at "wp"
        refine ⟨_, _, en1, ?_⟩
        walk_at "wp"
        refine ⟨by kernel_rfl, ?_⟩
        walk_at "wp"
        refine ⟨fun _ => ?_, fun _ => ?_⟩
        · walk_at "wp"
          refine ⟨_, _, ev1, ?_⟩
          walk_at "wp"
          exact ⟨_, _, _, rfl, rfl, dok_tup.mpr ⟨by simp, memc (dok_up (by omega) hv1) (memc (dok_up (by omega) hp2) (mem1 (dok_up (by omega) hn1)))⟩⟩
        · walk_at "wp"
          exact ⟨_, _, _, rfl, rfl, dok_tup.mpr ⟨by simp, memc (dok_up (by omega) dv) (memc (dok_up (by omega) hp2) (mem1 (dok_up (by omega) hn1)))⟩⟩
      · walk_at "wp"
        refine ⟨by kernel_rfl, ?_⟩
        walk_at "wp"
        refine ⟨fun _ => ?_, fun _ => ?_⟩
        · walk_at "wp"
          refine ⟨_, _, ev2, ?_⟩
          walk_at "wp"
          exact ⟨_, _, _, rfl, rfl, dok_tup.mpr ⟨by simp, memc (dok_up (by omega) hv2) (memc (dok_up (by omega) hp2) (mem1 (dok_up (by omega) i0)))⟩⟩
        · walk_at "wp"
          exact ⟨_, _, _, rfl, rfl, dok_tup.mpr ⟨by simp, memc (dok_up (by omega) dv) (memc (dok_up (by omega) hp2) (mem1 (dok_up (by omega) i0)))⟩⟩
    · walk_at "wp"
      refine ⟨by kernel_rfl, ?_⟩
      walk_at "wp"
      refine ⟨fun _ => ?_, fun _ => ?_⟩
      · walk_at "wp"
        refine ⟨_, _, en2, ?_⟩
        walk_at "wp"
        refine ⟨by kernel_rfl, ?_⟩
        walk_at "wp"
        refine ⟨fun _ => ?_, fun _ => ?_⟩
        · walk_at "wp"
          refine ⟨_, _, ev3, ?_⟩
          walk_at "wp"
          exact ⟨_, _, _, rfl, rfl, dok_tup.mpr ⟨by simp, memc (dok_up (by omega) hv3) (memc (dok_up (by omega) dp) (mem1 (dok_up (by omega) hn2)))⟩⟩
        · walk_at "wp"
          exact ⟨_, _, _, rfl, rfl, dok_tup.mpr ⟨by simp, memc (dok_up (by omega) dv) (memc (dok_up (by omega) dp) (mem1 (dok_up (by omega) hn2)))⟩⟩
      · walk_at "wp"
        refine ⟨by kernel_rfl, ?_⟩
        walk_at "wp"
        refine ⟨fun _ => ?_, fun _ => ?_⟩
        · walk_at "wp"
          refine ⟨_, _, ev4, ?_⟩
          walk_at "wp"
          exact ⟨_, _, _, rfl, rfl, dok_tup.mpr ⟨by simp, memc (dok_up (by omega) hv4) (memc (dok_up (by omega) dp) (mem1 (dok_up (by omega) i0)))⟩⟩
        · walk_at "wp"
          exact ⟨_, _, _, rfl, rfl, dok_tup.mpr ⟨by simp, memc (dok_up (by omega) dv) (memc (dok_up (by omega) dp) (mem1 (dok_up (by omega) i0)))⟩⟩
end Kx
end
section
set_option Elab.async false
set_option linter.all false
set_option maxRecDepth 100000
set_option maxHeartbeats 4000000
/-! One turn of the law, behind its jar. -/
namespace Kx
open PySem PySem.Spec PyProof.Rows L2 Fh
local macro_rules | `(tactic| walk_at "wp") => `(tactic| set_option smartUnfolding false in with_unfolding_all conv => whnf)
def tLaw := addS "_law_full_net" f_full (addS "_law_raw_net" f_raw (addS "_law_take" f_take (addS "_law_judged" f_judged (addS "_law_bent_net" f_bnet (addS "_law_same" (f_same 6) no0)))))
def lawRest : List Stmt := match (defBody (top ix_law)).getD 0 (.Pass ⟨0, 0, 0, 0⟩) with
  | .For _ _ b _ _ => b.drop 1
  | _ => []
def NetQ (o : Option (Res × HO)) : Prop := ∃ t a' b', o = some (.ok t, J a' b') ∧ NetP t
theorem NetQ.of {f : Fnl} {ds : List D} {c : HO} (h : Brings f ds c (JarQ NetP)) : NetQ (f ds c) := by
  obtain ⟨r, c, e, d, a', b', rfl, rfl, h⟩ := h
  exact ⟨d, a', b', e, h⟩
theorem judged_ex {d : D} {n : Nat} {a b : Int} (hd : d.dok n = true) (hn : n ≤ 5) : ∃ a' b', f_judged [.jar, d] (J a b) = some (.ok (.bl true), J a' b') := by
  obtain ⟨r, c, e, d, a', b', rfl, rfl, rfl⟩ := judged_ok (a := a) (b := b) hd hn
  exact ⟨a', b', e⟩
def TurnQ (ns : List Int) : Out → Prop
  | .nx ρ c => (∃ a b, c = J a b) ∧ ρ.length = 9 ∧ ρ[0]? = some (some (.fr (.scr ns)))
  | _ => False
theorem rest_ok {ns : List Int} {a b : Int} : (iSs fuelI (icOf lib tLaw noH d_law) lib.er [some (.fr (.scr ns)), none, some (.fr .jar), none, none, none, none, none, none] lawRest (J a b)).wp (TurnQ ns) := by
  obtain ⟨w, a1, b1, e1, _, _⟩ := take_ex (a := a) (b := b) (t := 20) (by omega) (by decide)
  have pre : ∀ (t : D) (a2 b2 : Int), NetP t → ∃ a3 b3 w4 a4 b4, f_judged [.jar, t] (J a2 b2) = some (.ok (.bl true), J a3 b3) ∧ f_take [.jar, .int 6] (J a3 b3) = some (.ok (.int w4), J a4 b4) ∧ 0 ≤ w4 ∧ w4 < 6 := fun t a2 b2 ht => by
    obtain ⟨a3, b3, e3⟩ := judged_ex (a := a2) (b := b2) (net_of ht).dok (by omega)
    obtain ⟨w4, a4, b4, e4, g1, g2⟩ := take_ex (a := a3) (b := b3) (t := 6) (by omega) (by decide)
    exact ⟨a3, b3, w4, a4, b4, e3, e4, g1, g2⟩
  have turn : ∀ (t : D) (a b : Int), NetP t → ∃ th a2 b2 a3 b3 w4 a4 b4 a5 b5, f_bnet [.jar, t] (J a b) = some (.ok th, J a2 b2) ∧ th.nojar = true ∧ D.nojars [t] = true ∧ f_judged [.jar, th] (J a2 b2) = some (.ok (.bl true), J a3 b3) ∧ (∀ c, f_same 6 [th, th] c = some (.ok (.bl true), c)) ∧ f_take [.jar, .int 3] (J a3 b3) = some (.ok (.int w4), J a4 b4) ∧ f_judged [.jar, t] (J a4 b4) = some (.ok (.bl true), J a5 b5) := fun t a b ht => by
    obtain ⟨th, a2, b2, e2, hd⟩ := DokQ.of (bnet_ok (a := a) (b := b) ht)
    obtain ⟨a3, b3, e3⟩ := judged_ex (a := a2) (b := b2) hd (by omega)
    obtain ⟨w4, a4, b4, e4, _, _⟩ := take_ex (a := a3) (b := b3) (t := 3) (by omega) (by decide)
    obtain ⟨a5, b5, e5⟩ := judged_ex (a := a4) (b := b4) (net_of ht).dok (by omega)
    refine ⟨th, a2, b2, a3, b3, w4, a4, b4, a5, b5, e2, (dok_plain hd).2.1, Bool.and_eq_true_iff.mpr ⟨(dok_plain (net_of ht).dok).2.1, rfl⟩, e3, fun c => same_ok (dok_up (by omega) hd), e4, e5⟩
  obtain ⟨t1, a2, b2, e2, n1⟩ := NetQ.of (full_ok (a := a1) (b := b1))
  obtain ⟨t2, a2', b2', e2', n2⟩ := NetQ.of (raw_ok (a := a1) (b := b1))
  walk_at "wp"
  refine ⟨_, _, e1, ?_⟩
  walk_at "wp"
  refine ⟨fun _ => ?_, fun _ => ?_⟩
  · walk_at "wp"
    refine ⟨_, _, e2, ?_⟩
    obtain ⟨a3, b3, w4, a4, b4, e3, e4, g1, g2⟩ := pre t1 a2 b2 n1
    walk_at "wp"
    refine ⟨_, _, e3, ?_⟩
    walk_at "wp"
    refine ⟨fun z => (by cases z), fun _ => ?_⟩
    walk_at "wp"
    refine ⟨_, _, e4, ?_⟩
    walk_at "wp"
    refine ⟨bnd_of (i := 1 + w4) (by omega) (by omega), ?_⟩
    walk_at "wp"
    refine loop_g (fun es ρ c => (∃ a b, c = J a b) ∧ ∃ u1 u2 u3 u4 u5, ρ = [some (.fr (.scr ns)), none, some (.fr .jar), some (.fr t1), u1, u2, u3, u4, u5]) ?_ ?_ ?_
    · exact ⟨⟨_, _, rfl⟩, _, _, _, _, _, rfl⟩
    · rintro d es ρ c ⟨⟨a, b, rfl⟩, u1, u2, u3, u4, u5, rfl⟩
      obtain ⟨th, a6, b6, a7, b7, w8, a8, b8, a9, b9, f1, f2, f3, f4, f5, f6, f7⟩ := turn t1 a b n1
      refine ⟨_, rfl, ?_⟩
      walk_at "wp"
      refine ⟨_, _, f1, ?_⟩
      walk_at "wp"
      refine ⟨f3, ?_⟩
      walk_at "wp"
      refine ⟨_, _, f1, ?_⟩
      walk_at "wp"
      refine ⟨f2, ?_⟩
      walk_at "wp"
      refine ⟨_, _, f4, ?_⟩
      walk_at "wp"
      refine ⟨fun z => (by cases z), fun _ => ?_⟩
      walk_at "wp"
      refine ⟨_, _, f5 _, ?_⟩
      walk_at "wp"
      refine ⟨fun z => (by cases z), fun _ => ?_⟩
      walk_at "wp"
      refine ⟨_, _, f6, ?_⟩
      walk_at "wp"
      refine ⟨fun _ => ?_, fun _ => ?_⟩
      · walk_at "wp"
        refine ⟨_, _, f7, ?_⟩
        walk_at "wp"
        refine ⟨fun z => (by cases z), fun _ => ?_⟩
        walk_at "wp"
        exact ⟨⟨_, _, rfl⟩, _, _, _, _, _, rfl⟩
      · walk_at "wp"
        refine ⟨fun z => (by cases z), fun _ => ?_⟩
        walk_at "wp"
        exact ⟨⟨_, _, rfl⟩, _, _, _, _, _, rfl⟩
    · rintro ρ c ⟨⟨a, b, rfl⟩, u1, u2, u3, u4, u5, rfl⟩
      walk_at "wp"
      exact ⟨⟨_, _, rfl⟩, rfl, rfl⟩
  · walk_at "wp"
    refine ⟨_, _, e2', ?_⟩
    obtain ⟨a3, b3, w4, a4, b4, e3, e4, g1, g2⟩ := pre t2 a2' b2' n2
    walk_at "wp"
    refine ⟨_, _, e3, ?_⟩
    walk_at "wp"
    refine ⟨fun z => (by cases z), fun _ => ?_⟩
    walk_at "wp"
    refine ⟨_, _, e4, ?_⟩
    walk_at "wp"
    refine ⟨bnd_of (i := 1 + w4) (by omega) (by omega), ?_⟩
    walk_at "wp"
    refine loop_g (fun es ρ c => (∃ a b, c = J a b) ∧ ∃ u1 u2 u3 u4 u5, ρ = [some (.fr (.scr ns)), none, some (.fr .jar), some (.fr t2), u1, u2, u3, u4, u5]) ?_ ?_ ?_
    · exact ⟨⟨_, _, rfl⟩, _, _, _, _, _, rfl⟩
    · rintro d es ρ c ⟨⟨a, b, rfl⟩, u1, u2, u3, u4, u5, rfl⟩
      obtain ⟨th, a6, b6, a7, b7, w8, a8, b8, a9, b9, f1, f2, f3, f4, f5, f6, f7⟩ := turn t2 a b n2
      refine ⟨_, rfl, ?_⟩
      walk_at "wp"
      refine ⟨_, _, f1, ?_⟩
      walk_at "wp"
      refine ⟨f3, ?_⟩
      walk_at "wp"
      refine ⟨_, _, f1, ?_⟩
      walk_at "wp"
      refine ⟨f2, ?_⟩
      walk_at "wp"
      refine ⟨_, _, f4, ?_⟩
      walk_at "wp"
      refine ⟨fun z => (by cases z), fun _ => ?_⟩
      walk_at "wp"
      refine ⟨_, _, f5 _, ?_⟩
      walk_at "wp"
      refine ⟨fun z => (by cases z), fun _ => ?_⟩
      walk_at "wp"
      refine ⟨_, _, f6, ?_⟩
      walk_at "wp"
      refine ⟨fun _ => ?_, fun _ => ?_⟩
      · walk_at "wp"
        refine ⟨_, _, f7, ?_⟩
        walk_at "wp"
        refine ⟨fun z => (by cases z), fun _ => ?_⟩
        walk_at "wp"
        exact ⟨⟨_, _, rfl⟩, _, _, _, _, _, rfl⟩
      · walk_at "wp"
        refine ⟨fun z => (by cases z), fun _ => ?_⟩
        walk_at "wp"
        exact ⟨⟨_, _, rfl⟩, _, _, _, _, _, rfl⟩
    · rintro ρ c ⟨⟨a, b, rfl⟩, u1, u2, u3, u4, u5, rfl⟩
      walk_at "wp"
      exact ⟨⟨_, _, rfl⟩, rfl, rfl⟩
end Kx
end
section
set_option Elab.async false
set_option linter.all false
set_option maxRecDepth 100000
set_option maxHeartbeats 4000000
/-! The tables hold. -/
namespace Kx
open PySem PySem.Spec PyProof.Rows L2 Fh
section
variable {Pr : Program} {w : World} {K : PySem.W.Frag} {mg : Str → Option Value} {base : Heap} {C : Str → Addr} {T : List (Addr × Str)}
variable (L : LibOk Pr w K mg base T C lib)
abbrev Sh (Pr : Program) (w : World) (K : PySem.W.Frag) (mg : Str → Option Value) (base : Heap) (T : List (Addr × Str)) (C : Str → Addr) (k : Nat) (t : Str → Option Fnl) : Prop := ShOk Pr w K mg base T C lib k t
theorem h0 {k : Nat} : HfOk Pr w K mg base T C k noH := hf_nil
theorem z0 {k : Nat} : Sh Pr w K mg base T C k no0 := sh_nil
include L
theorem sh_t0 : Sh Pr w K mg base T C 6 t0 := sh_join L (k := 0) z0 h0 z0 (by omega) (by kernel_rfl)
theorem sh_t1 : Sh Pr w K mg base T C 12 t1 := sh_join L (sh_t0 L) h0 (sh_join L (k := 0) z0 h0 z0 (by omega) (by kernel_rfl)) (by omega) (by kernel_rfl)
theorem sh_t2 : Sh Pr w K mg base T C 18 t2 := sh_join L (sh_t1 L) h0 (sh_join L (sh_t1 L) h0 ((sh_t1 L).up (by omega)) (by omega) (by kernel_rfl)) (by omega) (by kernel_rfl)
theorem sh_t3 : Sh Pr w K mg base T C 24 t3 := sh_join L (sh_t2 L) h0 ((sh_t2 L).up (by omega)) (by omega) (by kernel_rfl)
theorem sh_t4 : Sh Pr w K mg base T C 30 t4 := sh_join L (sh_t3 L) h0 ((sh_t3 L).up (by omega)) (by omega) (by kernel_rfl)
theorem sh_t5 : Sh Pr w K mg base T C 36 t5 := sh_join L (sh_t4 L) h0 (sh_join L (sh_t4 L) h0 (sh_join L (sh_t4 L) h0 ((sh_t4 L).up (by omega)) (by omega) (by kernel_rfl)) (by omega) (by kernel_rfl)) (by omega) (by kernel_rfl)
theorem sh_t6 : Sh Pr w K mg base T C 42 t6 := sh_join L (sh_t5 L) h0 ((sh_t5 L).up (by omega)) (by omega) (by kernel_rfl)
theorem sh_tw : Sh Pr w K mg base T C 6 tw := sh_join L (k := 0) z0 h0 z0 (by omega) (by kernel_rfl)
theorem sh_tp : Sh Pr w K mg base T C 12 tp := sh_join L (sh_tw L) h0 ((sh_tw L).up (by omega)) (by omega) (by kernel_rfl)
theorem sh_same : ∀ n : Nat, Sh Pr w K mg base T C (12 + 6 * n) (addS "_law_same" (f_same n) tw)
  | 0 => sh_join L (sh_tw L) h0 ((sh_tw L).up (by omega)) (by omega) (by kernel_rfl)
  | n + 1 => sh_join L (sh_same n) h0 ((sh_tw L).up (by omega)) (by omega) (by kernel_rfl)
/-- _law_same joins a table -/
theorem sh_sameJ {m : Nat} {t : Str → Option Fnl} (h : Sh Pr w K mg base T C m t) (hm : 48 ≤ m) : Sh Pr w K mg base T C m (addS "_law_same" (f_same 6) t) := sh_join L (sh_same L 5) h0 h (by omega) (by kernel_rfl)
theorem sh_tj : Sh Pr w K mg base T C 6 tj := sh_join L (k := 0) z0 h0 z0 (by omega) (by kernel_rfl)
theorem sh_tn1 : Sh Pr w K mg base T C 12 tn1 := sh_join L (sh_tj L) h0 (sh_join L (sh_tj L) h0 ((sh_tj L).up (by omega)) (by omega) (by kernel_rfl)) (by omega) (by kernel_rfl)
theorem sh_tn2 : Sh Pr w K mg base T C 18 tn2 := sh_join L (sh_tn1 L) h0 (sh_join L (k := 0) z0 h0 ((sh_tn1 L).up (by omega)) (by omega) (by kernel_rfl)) (by omega) (by kernel_rfl)
theorem sh_tset : Sh Pr w K mg base T C 6 tset := sh_join L (k := 0) z0 h0 z0 (by omega) (by kernel_rfl)
theorem sh_todd : Sh Pr w K mg base T C 12 todd := sh_join L (k := 0) z0 h0 (sh_join L (k := 0) z0 h0 (sh_join L (sh_tset L) h0 ((sh_tset L).up (by omega)) (by omega) (by kernel_rfl)) (by omega) (by kernel_rfl)) (by omega) (by kernel_rfl)
theorem sh_tlist : Sh Pr w K mg base T C 12 tlist := sh_join L (k := 0) z0 h0 (sh_join L (sh_tset L) h0 ((sh_tset L).up (by omega)) (by omega) (by kernel_rfl)) (by omega) (by kernel_rfl)
theorem sh_ttw : Sh Pr w K mg base T C 6 ttw := sh_join L (k := 0) z0 h0 (sh_join L (k := 0) z0 h0 (sh_join L (k := 0) z0 h0 z0 (by omega) (by kernel_rfl)) (by omega) (by kernel_rfl)) (by omega) (by kernel_rfl)
theorem sh_ttr : Sh Pr w K mg base T C 12 ttr := sh_join L (sh_ttw L) h0 (sh_join L (sh_tset L) h0 ((sh_tset L).up (by omega)) (by omega) (by kernel_rfl)) (by omega) (by kernel_rfl)
theorem sh_tb : Sh Pr w K mg base T C 24 tb := sh_join L (sh_tn2 L) h0 ((sh_tn2 L).up (by omega)) (by omega) (by kernel_rfl)
theorem sh_tnet : Sh Pr w K mg base T C 30 tnet :=
  sh_join L (sh_todd L) h0 (sh_join L (sh_tlist L) h0 (sh_join L (sh_ttw L) h0 (sh_join L (sh_ttr L) h0 (sh_join L (sh_tb L) h0 (sh_join L (sh_tn2 L) h0 (sh_join L (sh_tn2 L) h0 ((sh_tn2 L).up (by omega))
    (by omega) (by kernel_rfl)) (by omega) (by kernel_rfl)) (by omega) (by kernel_rfl)) (by omega) (by kernel_rfl)) (by omega) (by kernel_rfl)) (by omega) (by kernel_rfl)) (by omega) (by kernel_rfl)
theorem sh_tJ : Sh Pr w K mg base T C 48 tJ := sh_join L (sh_tp L) h0 (sh_join L (k := 0) z0 h0 (sh_sameJ L (sh_join L (sh_t6 L) h0 ((sh_t6 L).up (by omega)) (by omega) (by kernel_rfl)) (by omega)) (by omega) (by kernel_rfl)) (by omega) (by kernel_rfl)
theorem sh_tLaw (hj : HfOk Pr w K mg base T C 48 hfJ) : Sh Pr w K mg base T C 54 tLaw :=
  sh_join L (sh_tn2 L) h0 (sh_join L (sh_tn2 L) h0 (sh_join L (k := 0) z0 h0 (sh_join L (sh_tJ L) hj (sh_join L (sh_tnet L) h0 (sh_sameJ L z0 (by omega))
    (by omega) (by kernel_rfl)) (by omega) (by kernel_rfl)) (by omega) (by kernel_rfl)) (by omega) (by kernel_rfl)) (by omega) (by kernel_rfl)
end
end Kx
end
section
set_option Elab.async false
set_option linter.all false
set_option maxRecDepth 100000
set_option maxHeartbeats 4000000
/-! The law's pool. -/
namespace Fh
open PySem PySem.Spec PyProof.Rows L2
/-- statements, by a wish R of the ends -/
def Sg (w : Wh) (sts : List Stmt) (ρ : Rho) (c : HO) (R : Ends → Prop) : Prop := w.Ok → ∀ Z σ H, At w.F Z ρ c σ H → ∀ D : Ends, R D → wSs w.X sts D σ H
section
variable {w : Wh} {ic : IC} {er : Str → Bool} {ρ ρ1 : Rho} {c c1 : HO} {R : Ends → Prop} {post : List Stmt}
theorem sg_frz1 {N : List Str} {x : Str} {sts : List Stmt} (h : Sg w sts (frz1 N x ρ) c R) : Sg w sts ρ c R := by
  unfold frz1 at h
  split at h
  · split at h
    · rename_i hi
      exact fun hw Z σ H a D q => h hw Z σ H (a.freeze _ hi) D q
    · exact h
  · exact h
theorem sg_frz {N : List Str} {sts : List Stmt} : ∀ {xs : List Str} {ρ : Rho}, Sg w sts (frz N xs ρ) c R → Sg w sts ρ c R
  | [], _, h => h
  | x :: xs, ρ, h => by
    have e : frz N (x :: xs) ρ = frz N xs (frz1 N x ρ) := forceR_eq
    rw [e] at h
    exact sg_frz1 (sg_frz h)
/-- what is read ahead of other statements -/
theorem sg_lead (W : Sw w ic er) : ∀ {n : Nat} {sts : List Stmt} {ρ : Rho} {c : HO}, (iSs n ic er ρ sts c).run = some (.nx ρ1 c1) → Sg w post ρ1 c1 R → Sg w (sts ++ post) ρ c R
  | 0, _, _, _, h, _ => by cases h
  | n + 1, [], ρ, c, h, g => by cases h; exact g
  | n + 1, st :: sts, ρ, c, h, g => by
    refine sg_frz (N := ic.N) (xs := escS n st) ?_
    obtain ⟨o', e, h⟩ := dbind_some (show ((forceR (frz ic.N (escS n st) ρ) fun ρ => iS n ic er ρ st c).bind _).run = _ from h)
    rw [forceR_eq] at e
    have a := (ss_of n w er W).S _ _ _ _ e
    cases o' with
    | nx ρ2 c2 =>
      have t := sg_lead W (n := n) h g
      exact fun hw Z σ H at' D q => wSs_of (pss_cons ps_w pss_w) (a hw Z σ H at' _ fun σ' H' a' => t hw Z σ' H' a' D q)
    | ret d c2 => cases h
    | brk ρ2 c2 => cases h
    | ct ρ2 c2 => cases h
    | exn k d c2 => cases h
end
end Fh
namespace Kx
open PySem PySem.Spec PyProof.Rows L2 Fh
local macro_rules | `(tactic| walk_at "wp") => `(tactic| set_option smartUnfolding false in with_unfolding_all conv => whnf)
def poolPre : List Stmt := (defBody (top ix_law_pool)).take 4
def poolRet : Expr := match (defBody (top ix_law_pool)).getD 4 (.Pass ⟨0, 0, 0, 0⟩) with
  | .Return (some e) _ => e
  | _ => .Constant .none 0 ⟨0, 0, 0, 0⟩
theorem scr_eqs (ns : List Int) : (D.scr ns).eqs = true := by
  refine Bool.and_eq_true_iff.mpr ⟨rfl, Bool.and_eq_true_iff.mpr ⟨?_, decide_eq_true ?_⟩⟩
  · show PyData.canLayAll0 (ns.map .int) = true
    induction ns with
    | nil => rfl
    | cons n ns ih => exact Bool.and_eq_true_iff.mpr ⟨rfl, ih⟩
  · show PyData.depthAll (ns.map .int) + 1 ≤ 64
    have : PyData.depthAll (ns.map .int) = 0 := by
      induction ns with
      | nil => rfl
      | cons n ns ih => show max 0 (PyData.depthAll (ns.map .int)) = 0; rw [ih]; rfl
    omega
/-- what stands in the slots ahead of the return -/
def PoolQ (ns : List Int) (k : Nat) (c : HO) (o : Out) : Prop := ∃ cell big mixed : Int, o = .nx [some (.fr (.scr ns)), some (.fr (.int k)), some (.fr (.int cell)), some (.fr (.int big)), some (.fr (.int mixed))] c
theorem pool_pre (ns : List Int) (k : Nat) (hk : k ≤ 3) (c : HO) : (iSs fuelI (icOf lib no0 noH d_law_pool) lib.er (rho0 d_law_pool.N [.scr ns, .int k]) poolPre c).wp (PoolQ ns k c) := by
  have small : ∀ x : Int, mulOk (x.fmod 2147483629 + 7919 * k * k + 31 * k + 17) 48271 = true := fun x => Bool.or_eq_true_iff.mpr (.inr (Bool.or_eq_true_iff.mpr (.inr rfl)))
  have kk : ∀ x : Int, mulOk x (k : Int) = true := fun x => Bool.or_eq_true_iff.mpr (.inr (Bool.or_eq_true_iff.mpr (.inr (Bool.and_eq_true_iff.mpr ⟨decide_eq_true (by omega), decide_eq_true (by omega)⟩))))
  walk_at "wp"
  have at_ : ∀ j : Nat, j < ns.length → ∃ x, (atI (ns.map D.int) (j : Int)).isSome = true ∧ atV (ns.map D.int) (j : Int) = .int x := fun j hj => by
    have e : (ns.map D.int)[j]? = some (.int ns[j]) := by rw [List.getElem?_map, List.getElem?_eq_getElem hj]; rfl
    exact ⟨_, (atV_of e).1, (atV_of e).2⟩
  refine ⟨fun h => ?_, fun h => ?_⟩
  · replace h : decide ((k : Int) < ((ns.map D.int).length : Int)) = true := h
    obtain ⟨x, y1, y2⟩ := at_ k (by have := of_decide_eq_true h; rw [List.length_map] at this; omega)
    walk_at "wp"
    refine ⟨y1, ?_⟩
    rw [y2]
    walk_at "wp"
    refine ⟨rfl, ?_⟩
    walk_at "wp"
    refine ⟨kk _, ?_⟩
    walk_at "wp"
    refine ⟨kk _, ?_⟩
    walk_at "wp"
    refine ⟨kk _, ?_⟩
    walk_at "wp"
    refine ⟨small _, ?_⟩
    walk_at "wp"
    refine ⟨rfl, ?_⟩
    walk_at "wp"
    exact ⟨_, _, _, rfl⟩
  · walk_at "wp"
    refine ⟨Bool.and_eq_true_iff.mpr ⟨scr_eqs ns, rfl⟩, ?_⟩
    walk_at "wp"
    cases hns : ns with
    | nil =>
      refine ⟨fun z => (by cases z), fun _ => ?_⟩
      walk_at "wp"
      refine ⟨rfl, ?_⟩
      walk_at "wp"
      refine ⟨kk _, ?_⟩
      walk_at "wp"
      refine ⟨kk _, ?_⟩
      walk_at "wp"
      refine ⟨kk _, ?_⟩
      walk_at "wp"
      refine ⟨small _, ?_⟩
      walk_at "wp"
      refine ⟨rfl, ?_⟩
      walk_at "wp"
      exact ⟨_, _, _, rfl⟩
    | cons n0 ns0 =>
      refine ⟨fun _ => ?_, fun z => (by cases z)⟩
      rw [← hns]
      obtain ⟨x, y1, y2⟩ := at_ 0 (by rw [hns]; simp)
      clear hns
      walk_at "wp"
      refine ⟨y1, ?_⟩
      rw [show atV (ns.map D.int) 0 = .int x from y2]
      walk_at "wp"
      refine ⟨rfl, ?_⟩
      walk_at "wp"
      refine ⟨kk _, ?_⟩
      walk_at "wp"
      refine ⟨kk _, ?_⟩
      walk_at "wp"
      refine ⟨kk _, ?_⟩
      walk_at "wp"
      refine ⟨small _, ?_⟩
      walk_at "wp"
      refine ⟨rfl, ?_⟩
      walk_at "wp"
      exact ⟨_, _, _, rfl⟩
def PairQ (c : HO) (p : List D × HO) : Prop := ∃ a b : Int, p = ([.int a, .int b], c)
theorem pool_ret (ns : List Int) (k : Nat) (cell big mixed : Int) (c : HO) : ∃ r, newOf 100 (icOf lib no0 noH d_law_pool) [some (.fr (.scr ns)), some (.fr (.int k)), some (.fr (.int cell)), some (.fr (.int big)), some (.fr (.int mixed))] poolRet c = some r ∧ r.wp (PairQ c) := by
  refine ⟨_, rfl, ?_⟩
  have m0 : ∀ b : Bool, mulOk big (if b = true then 1 else 0) = true := fun b => Bool.or_eq_true_iff.mpr (.inr (Bool.or_eq_true_iff.mpr (.inr (by cases b <;> rfl))))
  walk_at "wp"
  refine ⟨by kernel_rfl, ?_⟩
  walk_at "wp"
  refine ⟨fun _ => ?_, fun _ => ?_⟩
  · walk_at "wp"
    refine ⟨m0 _, ?_⟩
    walk_at "wp"
    refine ⟨rfl, ?_⟩
    walk_at "wp"
    exact ⟨_, _, rfl⟩
  · walk_at "wp"
    refine ⟨m0 false, ?_⟩
    walk_at "wp"
    refine ⟨rfl, ?_⟩
    walk_at "wp"
    exact ⟨_, _, rfl⟩
end Kx
end
section
set_option Elab.async false
set_option linter.all false
set_option maxRecDepth 100000
set_option maxHeartbeats 4000000
/-! What the law hears. -/
namespace Kx
open PySem PySem.Spec PyProof.Rows L2 Fh
/-- the classes that are listed -/
def allN : List Str := match defBody (top ix_law_classes) with
  | [.Return (some (.List es _)) _] => (rowsOf "error" es).getD []
  | _ => []
section
variable {Pr : Program} {w : World} {K : PySem.W.Frag} {mg : Str → Option Value} {base : Heap} {C : Str → Addr} {T : List (Addr × Str)}
theorem cf_ok (L : LibOk Pr w K mg base T C lib) : CfF K mg "_law_classes" allN := by
  obtain ⟨f, fd, qual, params, m1, FD, FS, kp, bx, _⟩ := L.defs "_law_classes" d_law_classes (by kernel_rfl)
  refine ⟨⟨qual, params, _, _, _, _, f, fd, _, _, FD, FS, m1, bx.1, ?_, ?_, ?_, ?_⟩, ?_, ?_, ?_⟩
  · kernel_rfl
  · kernel_rfl
  · decide +kernel
  · kernel_rfl
  · decide +kernel
  · decide +kernel
  · kernel_rfl
/-- the places of the law's own text -/
def suB : Stmt → SuP
  | .Try _ [.ExceptHandler _ _ [.Return (some (.Tuple [.Call (.Attribute (.Constant _ k1 p1) _ p2) [.ListComp (.Subscript (.Name _ p3) (.Constant _ k2 p4) p5) [⟨.Name _ p6, .Call (.Name _ p7) [.Name _ p8] _ p9, [.Subscript (.Name _ pa) (.Constant _ k3 pb) pc], _⟩] _ pd] _ pe, .Attribute (.Name _ pf) _ pg] k4 ph)) pi] _] _ _ _ => ⟨p1, p2, p3, p4, p5, p6, p7, p8, p9, pa, pb, pc, pd, pe, pf, pg, ph, pi, k1, k2, k3, k4, 0⟩
  | _ => ⟨⟨0, 0, 0, 0⟩, ⟨0, 0, 0, 0⟩, ⟨0, 0, 0, 0⟩, ⟨0, 0, 0, 0⟩, ⟨0, 0, 0, 0⟩, ⟨0, 0, 0, 0⟩, ⟨0, 0, 0, 0⟩, ⟨0, 0, 0, 0⟩, ⟨0, 0, 0, 0⟩, ⟨0, 0, 0, 0⟩, ⟨0, 0, 0, 0⟩, ⟨0, 0, 0, 0⟩, ⟨0, 0, 0, 0⟩, ⟨0, 0, 0, 0⟩, ⟨0, 0, 0, 0⟩, ⟨0, 0, 0, 0⟩, ⟨0, 0, 0, 0⟩, ⟨0, 0, 0, 0⟩, 0, 0, 0, 0, 0⟩
def hSt : Stmt := (defBody (top ix_law_heard)).getD 0 (.Pass ⟨0, 0, 0, 0⟩)
theorem heard_text : ∃ (scope : Scope) (p1 p2 p3 p4 p5 p6 p7 p8 : Pos) (k1 k2 : Nat), defBody (top ix_law_heard) = [heardS (suB hSt) "Refused" "call" "error" "_law_classes" "row" scope p1 p2 p3 p4 p5 p6 p7 p8 k1 k2] ∧ blkC d_law_heard.N d_law_heard.sc scope [("row", 2)] = true ∧ varOk d_law_heard.N (relS scope d_law_heard.sc) 2 "row" = true ∧ (relS scope d_law_heard.sc).names.lookup ("row" : Str) = some .local :=
  ⟨_, _, _, _, _, _, _, _, _, _, _, rfl, by kernel_rfl, by kernel_rfl, by kernel_rfl⟩
theorem hof_h (L : LibOk Pr w K mg base T C lib) (X : ∀ k ∈ exL, ClsF K mg C allN k) (n : Nat) : Hof Pr w K mg base T C "_law_heard" n 0 hHeard := by
  obtain ⟨f, fd, qual, params, m1, FD, FS, kp, bx, _⟩ := L.defs "_law_heard" d_law_heard (by kernel_rfl)
  have rf := L.cat "BadNet" "Refused" (by kernel_rfl)
  obtain ⟨scope, p1, p2, p3, p4, p5, p6, p7, p8, k1, k2, hb, g1, g2, g3⟩ := heard_text
  have FD' : FunD K "_law_heard" qual params [heardS (suB hSt) "Refused" "call" "error" "_law_classes" "row" scope p1 p2 p3 p4 p5 p6 p7 p8 k1 k2] d_law_heard.sc [] [] f fd := by
    rw [← hb]
    exact FD
  refine hof_heard (N := d_law_heard.N) (ie := 1) (ir := 2) (all := allN) FD' FS (cf_ok L) (L.free "isinstance" (by kernel_rfl)) m1 bx.1 (by kernel_rfl) (by kernel_rfl) rf.2 (by kernel_rfl) (by kernel_rfl) (by decide) (by kernel_rfl) (by kernel_rfl) (by kernel_rfl) (by kernel_rfl) g1 g2 g3 (by kernel_rfl) (by decide) fun k hk => ⟨X k hk, ?_, ?_, (L.cat k "Refused" ?_).1⟩
  all_goals
    unfold exL at hk
    simp only [List.mem_cons, List.not_mem_nil, or_false] at hk
    rcases hk with rfl | rfl | rfl | rfl | rfl
    all_goals first | kernel_rfl | decide +kernel
theorem tells_text : ∃ (p1 p2 p3 p4 p5 p6 p7 p8 p9 : Pos) (k1 k2 : Nat), defBody (top ix_law_tells) = [.Return (some (.Call (.Name "_law_same" p1) [.Call (.Name "_law_heard" p2) [.Name "call" p3] [] p4, .Tuple [.Constant (.str "told") k1 p7, .Name "due" p8] k2 p9] [] p5)) p6] :=
  ⟨_, _, _, _, _, _, _, _, _, _, _, rfl⟩
theorem hof_t (L : LibOk Pr w K mg base T C lib) (X : ∀ k ∈ exL, ClsF K mg C allN k) (n : Nat) (hn : 48 ≤ n) : Hof Pr w K mg base T C "_law_tells" n 1 hTells := by
  obtain ⟨f, fd, qual, params, m1, FD, FS, kp, bx, _⟩ := L.defs "_law_tells" d_law_tells (by kernel_rfl)
  obtain ⟨p1, p2, p3, p4, p5, p6, p7, p8, p9, k1, k2, hb⟩ := tells_text
  have FD' : FunD K "_law_tells" qual params [.Return (some (.Call (.Name "_law_same" p1) [.Call (.Name "_law_heard" p2) [.Name "call" p3] [] p4, .Tuple [.Constant (.str "told") k1 p7, .Name "due" p8] k2 p9] [] p5)) p6] d_law_tells.sc [] [] f fd := by
    rw [← hb]
    exact FD
  have Sm := kn_of L (sh_same L 5) h0 (x := "_law_same") (d := d_law_same) (by kernel_rfl)
  exact hof_tells (N := d_law_tells.N) FD' FS m1 bx.1 (hof_h L X n) Sm (by omega) (fun _ _ _ _ z => z) (by kernel_rfl) (by kernel_rfl) (by kernel_rfl) (by kernel_rfl) (by kernel_rfl) (by kernel_rfl)
theorem hf_ok (L : LibOk Pr w K mg base T C lib) (X : ∀ k ∈ exL, ClsF K mg C allN k) : HfOk Pr w K mg base T C 48 hfJ := fun x g h n hn => by
  unfold hfJ at h
  split at h
  · rename_i e
    cases h
    subst e
    exact ⟨0, by omega, hof_h L X n⟩
  · split at h
    · rename_i e
      cases h
      subst e
      exact ⟨1, by omega, hof_t L X n hn⟩
    · cases h
/-- all that the law calls is known -/
theorem tLaw_ok (L : LibOk Pr w K mg base T C lib) (X : ∀ k ∈ exL, ClsF K mg C allN k) : Sh Pr w K mg base T C 54 tLaw := sh_tLaw L (hf_ok L X)
end
end Kx
end
section
set_option Elab.async false
set_option linter.all false
set_option maxRecDepth 100000
set_option maxHeartbeats 4000000
/-! The law's pool, by the rules themselves: there is no jar yet. -/
namespace Kx
open PySem PySem.Spec PyProof.Rows L2 Fh
/-- a list of ints in, a new list of two ints out -/
def spPool (K : PySem.W.Frag) : Sp := fun vs H Q _ => ∃ (a : Addr) (k : Int) (ns : List Int), vs = [.ref a, .int k] ∧ SqL K H a (ns.map V.int) ∧ 0 ≤ k ∧ k ≤ 3 ∧ ∀ (H' : Hp) (p : Addr) (x y : Int), (∀ b o, H b = some o → H' b = some o) → H p = none → H' p = some (.lst [.int x, .int y]) → Q (.ref p) H'
section
variable {Pr : Program} {w : World} {K : PySem.W.Frag} {mg : Str → Option Value} {base : Heap} {C : Str → Addr} {T : List (Addr × Str)}
theorem itemAt {ns : List Int} {k : Int} (h0 : 0 ≤ k) (h1 : k < (ns.map V.int).length) : ∃ x : Int, atI (ns.map V.int) k = some (.int x) := by
  have e : (k.toNat : Int) = k := Int.toNat_of_nonneg h0
  have hk : k.toNat < ns.length := by rw [List.length_map] at h1; omega
  have g : (ns.map V.int)[k.toNat]? = some (.int ns[k.toNat]) := by rw [List.getElem?_map, List.getElem?_eq_getElem hk]; rfl
  have a := atI_nat g
  rw [e] at a
  exact ⟨_, a⟩
theorem pool_fn (L : LibOk Pr w K mg base T C lib) : ∃ (f : Addr) (fd : FuncData), mg "_law_pool" = some (.ref f) ∧ FnOk Pr w K mg base (L2N.CX Pr w) 6 f fd ["script", "k"] (spPool K) ∧ PySem.W.keepIn K (.ref f) = true ∧ BindsX K fd ["script", "k"] := by
  obtain ⟨f, fd, qual, params, m1, FD, FS, kp, bx, _⟩ := L.defs "_law_pool" d_law_pool (by kernel_rfl)
  refine ⟨f, fd, m1, ?_, kp, bx⟩
  have mI := L.free "int" (by kernel_rfl)
  have mL := L.free "len" (by kernel_rfl)
  have mM := L.free "max" (by kernel_rfl)
  refine FD.ok FS (fun vs H Q E h => ?_) (fun cdv A outer s H vs Q E hr h => ?_)
  · obtain ⟨a, k, ns, rfl, _⟩ := h
    rfl
  · obtain ⟨a, k, ns, rfl, hS, hk0, hk1, hQ⟩ := h
    have hu : (cxOf (L2N.CX Pr w) Pr w K mg base d_law_pool.N qual d_law_pool.sc f cdv A outer s H E).A.units + 64 < cLine := room_un hr
    refine ⟨_, pss_cons (ps_set (i := 2) FS.nd rfl (.inl rfl) pe_int)
      (pss_cons (ps_if (pt_cmpR op_lt (pv 1) (pe_callB call_len_seq rfl mL boot_len (pa_cons (pv 0) pa_nil)) (nomark _))
          (pss_one (ps_set (i := 2) FS.nd rfl (.inl rfl) (pe_ix ix_list (pv 0) (pv 1) (fun _ _ => rfl))))
          (pss_one (ps_if (pt_cmpR (op_neD hu) (pv 0) (pe_lst pa_nil) (nomark _)) (pss_one (ps_set (i := 2) FS.nd rfl (.inl rfl) (pe_ix ix_list (pv 0) pe_int (fun _ _ => rfl)))) pss_nil)))
      (pss_cons (ps_set (i := 3) FS.nd rfl (.inl rfl) (pe_callB (call_max2 rfl) rfl mM (by decide +kernel) (pa_cons (pe_callTy call_int1 rfl mI (by decide +kernel) (pa_cons (pv 2) pa_nil))
          (pa_cons (pe_callTy call_int1 rfl mI (by decide +kernel) (pa_cons (pe_op op_sub (pe_un un_neg pe_int) (pv 2)) pa_nil)) pa_nil))))
      (pss_cons (ps_set (i := 4) FS.nd rfl (.inl rfl) (pe_op op_modN (pe_callTy call_int1 rfl mI (by decide +kernel) (pa_cons (pe_op op_mul
          (pe_op op_add (pe_op op_add (pe_op op_add (pe_op op_modN (pe_callTy call_int1 rfl mI (by decide +kernel) (pa_cons (pv 3) pa_nil)) pe_int) (pe_op op_mul (pe_op op_mul pe_int (pv 1)) (pv 1))) (pe_op op_mul pe_int (pv 1))) pe_int) pe_int) pa_nil)) pe_int))
      (pss_one (ps_ret (pe_lst (pa_cons (pe_op op_mul (pv 3) (pe_callTy call_int1 rfl mI (by decide +kernel) (pa_cons (pe_and (pe_cmpR op_ge (pv 3) (pe_op op_pow pe_int pe_int) (nomark _)) (pe_one (pe_cmpR op_lt (pv 1) (pe_callB call_len_seq rfl mL boot_len (pa_cons (pv 0) pa_nil)) (nomark _)))) pa_nil)))
          (pa_cons (pv 4) pa_nil)))))))), ?_⟩
    refine ⟨_, rfl, _, rfl, _, _, rfl, .inl hS, _, _, rfl, rfl, _, rfl, ?_⟩
    have small : ∀ z : Int, CMul z 48271 := fun z => .inr ⟨by omega, by omega⟩
    have mk : ∀ z : Int, CMul z k := fun z => .inr ⟨by omega, by omega⟩
    refine ite2 (fun hc => ?_) (fun hc => ?_)
    · obtain ⟨x, hx⟩ := itemAt (ns := ns) hk0 (of_decide_eq_true hc)
      refine ⟨_, rfl, _, rfl, a, _, _, _, rfl, rfl, hS, hx, ?_⟩
      have ext : ∀ b o, H b = some o → H b = some o := fun _ _ z => z
      have hS1 := hS
      refine ⟨_, rfl, .inl ⟨_, rfl, _, rfl, _, rfl, _, _, rfl, rfl, .inl ⟨_, rfl, _, _, rfl, ?_⟩⟩⟩
      refine ⟨_, rfl, .inl ⟨_, rfl, _, _, rfl, rfl, (by show (2147483629 : Int) ≠ 0; decide), _, rfl, _, _, rfl, rfl, mk _, _, rfl, _, _, rfl, rfl, mk _, _, _, rfl, rfl, _, rfl, _, _, rfl, rfl, mk _, _, _, rfl, rfl, _, _, rfl, rfl, _, _, rfl, rfl, small _, .inl ⟨_, rfl, _, _, rfl, rfl, (by show (2147483647 : Int) ≠ 0; decide), ?_⟩⟩⟩
      refine ⟨_, rfl, _, rfl, _, _, rfl, rfl, ⟨by decide, by decide, by decide⟩, _, _, rfl, rfl, _, rfl, ite2 (fun _ => ?_) (fun _ => ?_)⟩
      · refine ⟨_, rfl, _, rfl, _, _, rfl, .inl hS1, _, _, rfl, rfl, .inr ⟨_, rfl, _, _, rfl, rfl, .inr ⟨by split <;> omega, by split <;> omega⟩, _, rfl, by show 2 ≤ sizeLine; decide, fun p hp => ?_⟩⟩
        exact hQ _ p _ _ (fun b o z => by rw [upd_ne (ne_of_none (ext b o z) hp)]; exact ext b o z) (by
          cases q : H p with
          | none => rfl
          | some o => rw [ext p o q] at hp; cases hp) upd_same
      · refine .inr ⟨_, rfl, _, _, rfl, rfl, .inr ⟨by decide, by decide⟩, _, rfl, by show 2 ≤ sizeLine; decide, fun p hp => ?_⟩
        exact hQ _ p _ _ (fun b o z => by rw [upd_ne (ne_of_none (ext b o z) hp)]; exact ext b o z) (by
          cases q : H p with
          | none => rfl
          | some o => rw [ext p o q] at hp; cases hp) upd_same
    · refine ⟨_, rfl, by show 0 ≤ sizeLine; decide, fun l hl => ?_⟩
      have ext : ∀ b o, H b = some o → upd H l (.lst []) b = some o := fun b o z => by rw [upd_ne (ne_of_none z hl)]; exact z
      have hS1 : SqL K (upd H l (.lst [])) a (ns.map V.int) := sqL_monoD (fun b o e _ => ext b o e) hS
      have key := scr_eqs ns
      have key2 := Bool.and_eq_true_iff.mp key
      refine ⟨_, _, .lst hS1 (dps_ints ns), .lst (.inl (.inl upd_same)) .nil, key2.2, rfl, _, rfl, ?_⟩
      refine ite2 (fun hc => ?_) (fun hc => ?_)
      · have h0 : (0 : Int) < (ns.map V.int).length := by
          cases hns : ns with
          | nil => rw [hns] at hc; exact absurd hc (by decide)
          | cons n r => simp
        obtain ⟨x, hx⟩ := itemAt (ns := ns) (Int.le_refl 0) h0
        refine ⟨_, rfl, a, _, _, _, rfl, rfl, hS1, hx, ?_⟩
        refine ⟨_, rfl, .inl ⟨_, rfl, _, rfl, _, rfl, _, _, rfl, rfl, .inl ⟨_, rfl, _, _, rfl, ?_⟩⟩⟩
        refine ⟨_, rfl, .inl ⟨_, rfl, _, _, rfl, rfl, (by show (2147483629 : Int) ≠ 0; decide), _, rfl, _, _, rfl, rfl, mk _, _, rfl, _, _, rfl, rfl, mk _, _, _, rfl, rfl, _, rfl, _, _, rfl, rfl, mk _, _, _, rfl, rfl, _, _, rfl, rfl, _, _, rfl, rfl, small _, .inl ⟨_, rfl, _, _, rfl, rfl, (by show (2147483647 : Int) ≠ 0; decide), ?_⟩⟩⟩
        refine ⟨_, rfl, _, rfl, _, _, rfl, rfl, ⟨by decide, by decide, by decide⟩, _, _, rfl, rfl, _, rfl, ite2 (fun _ => ?_) (fun _ => ?_)⟩
        · refine ⟨_, rfl, _, rfl, _, _, rfl, .inl hS1, _, _, rfl, rfl, .inr ⟨_, rfl, _, _, rfl, rfl, .inr ⟨by split <;> omega, by split <;> omega⟩, _, rfl, by show 2 ≤ sizeLine; decide, fun p hp => ?_⟩⟩
          exact hQ _ p _ _ (fun b o z => by rw [upd_ne (ne_of_none (ext b o z) hp)]; exact ext b o z) (by
            cases q : H p with
            | none => rfl
            | some o => rw [ext p o q] at hp; cases hp) upd_same
        · refine .inr ⟨_, rfl, _, _, rfl, rfl, .inr ⟨by decide, by decide⟩, _, rfl, by show 2 ≤ sizeLine; decide, fun p hp => ?_⟩
          exact hQ _ p _ _ (fun b o z => by rw [upd_ne (ne_of_none (ext b o z) hp)]; exact ext b o z) (by
            cases q : H p with
            | none => rfl
            | some o => rw [ext p o q] at hp; cases hp) upd_same
      · refine ⟨_, rfl, .inl ⟨_, rfl, _, rfl, _, rfl, _, _, rfl, rfl, .inl ⟨_, rfl, _, _, rfl, ?_⟩⟩⟩
        refine ⟨_, rfl, .inl ⟨_, rfl, _, _, rfl, rfl, (by show (2147483629 : Int) ≠ 0; decide), _, rfl, _, _, rfl, rfl, mk _, _, rfl, _, _, rfl, rfl, mk _, _, _, rfl, rfl, _, rfl, _, _, rfl, rfl, mk _, _, _, rfl, rfl, _, _, rfl, rfl, _, _, rfl, rfl, small _, .inl ⟨_, rfl, _, _, rfl, rfl, (by show (2147483647 : Int) ≠ 0; decide), ?_⟩⟩⟩
        refine ⟨_, rfl, _, rfl, _, _, rfl, rfl, ⟨by decide, by decide, by decide⟩, _, _, rfl, rfl, _, rfl, ite2 (fun _ => ?_) (fun _ => ?_)⟩
        · refine ⟨_, rfl, _, rfl, _, _, rfl, .inl hS1, _, _, rfl, rfl, .inr ⟨_, rfl, _, _, rfl, rfl, .inr ⟨by split <;> omega, by split <;> omega⟩, _, rfl, by show 2 ≤ sizeLine; decide, fun p hp => ?_⟩⟩
          exact hQ _ p _ _ (fun b o z => by rw [upd_ne (ne_of_none (ext b o z) hp)]; exact ext b o z) (by
            cases q : H p with
            | none => rfl
            | some o => rw [ext p o q] at hp; cases hp) upd_same
        · refine .inr ⟨_, rfl, _, _, rfl, rfl, .inr ⟨by decide, by decide⟩, _, rfl, by show 2 ≤ sizeLine; decide, fun p hp => ?_⟩
          exact hQ _ p _ _ (fun b o z => by rw [upd_ne (ne_of_none (ext b o z) hp)]; exact ext b o z) (by
            cases q : H p with
            | none => rfl
            | some o => rw [ext p o q] at hp; cases hp) upd_same
end
end Kx
end
section
set_option Elab.async false
set_option linter.all false
set_option maxRecDepth 100000
set_option maxHeartbeats 4000000
/-! The law itself. -/
namespace Kx
open PySem PySem.Spec PyProof.Rows L2 Fh
/-- a list of ints in, True out -/
def spLaw (K : PySem.W.Frag) (T : List (Addr × Str)) : Sp := fun vs H Q _ => ∃ (a : Addr) (ns : List Int), vs = [.ref a] ∧ SqL K H a (ns.map V.int) ∧ LamX.Tabs T H ∧ ∀ H', Q (.bl true) H'
/-- between two turns -/
def LawI (K : PySem.W.Frag) (T : List (Addr × Str)) (ns : List Int) (σ : L2.St) (H : Hp) : Prop := ∃ a : Addr, σ.length = 9 ∧ σ[0]? = some (some (.ref a)) ∧ SqL K H a (ns.map V.int) ∧ LamX.Tabs T H
section
variable {Pr : Program} {w : World} {K : PySem.W.Frag} {mg : Str → Option Value} {base : Heap} {C : Str → Addr} {T : List (Addr × Str)}
abbrev lawRho (ns : List Int) : Rho := [some (.fr (.scr ns)), none, some (.fr .jar), none, none, none, none, none, none]
/-- behind the pool: the new list is the jar -/
theorem law_at {ns : List Int} {σ : L2.St} {H H' : Hp} {a p : Addr} {x y v : Int} (hl : σ.length = 9) (h0 : σ[0]? = some (some (.ref a))) (hS : SqL K H a (ns.map V.int)) (hT : LamX.Tabs T H) (hp : H p = none) (he : ∀ b o, H b = some o → H' b = some o) (hq : H' p = some (J x y)) :
    At (fxOf K T H' [p] p) (fun _ => none) (lawRho ns) (J x y) ((σ.set 1 (some (.int v))).set 2 (some (.ref p))) H' := by
  have hne : ∀ ps, (J x y) ≠ HO.tbl ps := fun ps z => by cases z
  have ok : Ok (fxOf K T H' [p] p) [] (J x y) H' :=
    { jS := List.mem_cons_self
      s0 := fun b hb => by
        rcases List.mem_cons.mp hb with e | e
        · show H' b ≠ none
          rw [e, hq]
          intro z
          cases z
        · cases e
      jc := hq
      tr := fun b hb => by
        rcases List.mem_cons.mp (show b ∈ [p] from hb) with e | e
        · exact ⟨J x y, by rw [e]; exact hq, hne⟩
        · cases e
      tb := hT.ext he
      st := Stp.refl _ _
      own := fun b hb => absurd hb (by simp)
      ndL := List.nodup_nil }
  refine ⟨[], ok, ?_, fun a o z => by cases z⟩
  have s2 : ((σ.set 1 (some (.int v))).set 2 (some (V.ref p)))[2]? = some (some (V.ref p)) := by
    rw [List.getElem?_set_self (by rw [List.length_set]; omega)]
  have s0 : ((σ.set 1 (some (.int v))).set 2 (some (V.ref p)))[0]? = some (some (V.ref a)) := by
    rw [List.getElem?_set_ne (by decide), List.getElem?_set_ne (by decide)]
    exact h0
  have hS' : SqL K (off [p] H') a (ns.map V.int) := sqL_monoD (fun b o e _ => by
    have nb : b ≠ p := ne_of_none e hp
    rw [off_eq (by simpa using nb)]
    exact he b o e) hS
  exact
    { len := by
        rw [List.length_set, List.length_set, hl]
        rfl
      fr := fun i d z => by
        match i, z with
        | 0, z =>
          have e : D.scr ns = d := by
            have z' : some (some (Sl.fr (.scr ns))) = some (some (Sl.fr d)) := z
            injection z' with z'
            injection z' with z'
            injection z'
          subst e
          exact ⟨_, s0, .scr hS'⟩
        | 2, z =>
          have e : D.jar = d := by
            have z' : some (some (Sl.fr .jar)) = some (some (Sl.fr d)) := z
            injection z' with z'
            injection z' with z'
            injection z'
          subst e
          exact ⟨_, s2, .jar⟩
        | 1, z | 3, z | 4, z | 5, z | 6, z | 7, z | 8, z => cases z
        | n + 9, z => simp at z
      ow := fun i ds z => by
        match i, z with
        | 0, z | 1, z | 2, z | 3, z | 4, z | 5, z | 6, z | 7, z | 8, z => cases z
        | n + 9, z => simp at z
      one := fun i k ds es q z _ _ _ => by
        match i, z with
        | 0, z | 1, z | 2, z | 3, z | 4, z | 5, z | 6, z | 7, z | 8, z => cases z
        | n + 9, z => simp at z }
theorem law_fn (L : LibOk Pr w K mg base T C lib) (X : ∀ k ∈ exL, ClsF K mg C allN k) : ∃ (f : Addr) (fd : FuncData), mg "law" = some (.ref f) ∧ FnOk Pr w K mg base (L2N.CX Pr w) 60 f fd ["script"] (spLaw K T) ∧ BindsX K fd ["script"] ∧ ∃ (x q : Str) (a : Arguments) (b : List Stmt) (s : Scope), FunD K x q a b s [] [] f fd := by
  obtain ⟨fp, fdp, mp, okp, kpp, bp⟩ := pool_fn L
  obtain ⟨f, fd, qual, params, m1, FD, FS, kp, bx, _⟩ := L.defs "law" d_law (by kernel_rfl)
  refine ⟨f, fd, m1, ?_, bx, _, _, _, _, _, FD⟩
  have mR := L.free "range" (by kernel_rfl)
  refine FD.ok FS (fun vs H Q E h => ?_) (fun cdv A outer s H0 vs Q E hr h => ?_)
  · obtain ⟨a, ns, rfl, _⟩ := h
    rfl
  · obtain ⟨a, ns, rfl, hS, hT, hQ⟩ := h
    refine ⟨_, PSs.nox (pss_cons (ps_for PassesOwn.never rfl (pi_range1 rfl mR (pa_cons pe_int pa_nil)) (pg_name (i := 1) FS.nd rfl (.inl rfl))
      (pss_cons (ps_set (i := 2) FS.nd rfl (.inl rfl) (pe_call (E := fun _ _ _ => False) okp (hr.mono (by omega)) rfl mp kpp bp.b .nil passNL (pa_cons (pv 0) (pa_cons (pv 1) pa_nil)))) pss_w)) (pss_one (ps_ret pe_bl))), ?_⟩
    refine ⟨3, rfl, by decide, by decide, for_range (lo := 0) (n := 3) (fun _ σ H => LawI K T ns σ H) ⟨a, rfl, rfl, hS, hT⟩ ?_ ?_⟩
    · rintro i σ H hi ⟨a, hl, h0, hS, hT⟩
      refine ⟨.ref a, ?_, .int (0 + (i : Int)), ?_, ?_⟩
      · exact (List.getElem?_set_ne (by decide)).trans h0
      · exact List.getElem?_set_self (by omega)
      · refine ⟨a, 0 + (i : Int), ns, rfl, hS, by omega, by omega, fun H' p x y he hp hq => ?_⟩
        obtain ⟨o, ho, hQ2⟩ := DT.wp_run (rest_ok (ns := ns) (a := x) (b := y))
        have W : Sw ⟨(cxOf (L2N.CX Pr w) Pr w K mg base d_law.N qual d_law.sc f cdv A outer s H0 E).nox, fxOf K T H' [p] p, fun _ _ _ _ => False, C⟩ (icOf lib tLaw noH d_law) lib.er := by
          refine ⟨?_, fun z hz => ⟨59, L.er z hz, hr, by omega⟩, fun k z hz => L.cat k z hz, rfl, rfl⟩
          exact
            { N := rfl
              sc := rfl
              free := L.free
              gi := L.gi
              fn := fun z g hz => by
                obtain ⟨ps, sem, a1, b1, c1⟩ := tLaw_ok L X z g hz
                exact ⟨ps, 54, 59, sem, a1, hr, by omega, b1, c1⟩
              hof := fun z g hz => by
                have hz' : (if lib.lam d_law.name = true then noH z else none) = some g := hz
                split at hz' <;> cases hz'
              un := room_un hr
              calm := rfl
              K := rfl
              nd := FS.nd
              cel := fun _ _ => rfl }
        refine (ss_of fuelI _ lib.er W).Ss _ _ _ _ ho ⟨rfl, takesN0⟩ (fun _ => none) _ H' (law_at hl h0 hS hT hp he hq) _ ?_
        cases o with
        | nx ρ c =>
          obtain ⟨_, gl, g0⟩ := hQ2
          rintro σ' H2 ⟨L', ok, En, _⟩
          obtain ⟨v, e1, e2⟩ := En.fr 0 _ g0
          cases e2 with
          | scr e3 => exact ⟨_, En.len.trans gl, e1, sqL_monoD (fun b u e _ => (off_some e).2) e3, ok.tb⟩
        | ret d c => exact hQ2.elim
        | brk ρ c => exact hQ2.elim
        | ct ρ c => exact hQ2.elim
        | exn k d c => exact hQ2.elim
    · intro σ H _
      exact hQ H
end
end Kx
end
section
set_option Elab.async false
set_option linter.all false
set_option maxRecDepth 100000
set_option maxHeartbeats 4000000
/-! The end. -/
namespace Kx
open PySem PySem.Spec PyProof.Rows L2 Fh
theorem funD_one {K : PySem.W.Frag} {x q x' q' : Str} {a a' : Arguments} {b b' : List Stmt} {s s' : Scope} {f : Addr} {fd fd' : FuncData} (h : FunD K x q a b s [] [] f fd) (h' : FunD K x' q' a' b' s' [] [] f fd') : fd = fd' := by
  obtain ⟨_, _, _, _, _, _, _, _, _, _, _, l, _⟩ := h.ex
  obtain ⟨_, _, _, _, _, _, _, _, _, _, _, l', _⟩ := h'.ex
  rw [l] at l'
  injection l' with l'
  injection l' with _ _ l' _
  injection l' with l'
theorem headS : HeadS lib clsN erN freeN giN "Refused" where
  free := fun x h => by
    have h' : freeN.contains x = true := h
    simpa using h'
  gi := fun x i h => lookup_mem (show giN.lookup x = some i from h)
  er := fun x h => by
    have h' : erN.contains x = true := h
    simpa using h'
  cat := fun k x h => by
    obtain ⟨a, b⟩ := Bool.and_eq_true_iff.mp (show (decide (x = ("Refused" : Str)) && erN.contains k) = true from h)
    exact ⟨by simpa using b, of_decide_eq_true a⟩
  top := by decide +kernel
  sub := by decide +kernel
theorem iniText : ∃ Po, hIni.body = iniBody Po := ⟨⟨_, _, _, _, _, _, _, _, _, _⟩, rfl⟩
theorem bxIni : BX hIni.params ["self", "what"] := ⟨fun _ _ _ _ _ _ _ _ _ _ us hl => match us, hl with | [_, _], _ => rfl, fun _ _ _ _ _ _ _ _ _ _ y u e => by obtain ⟨_, e⟩ := List.cons.inj e; cases e⟩
theorem namesOk : lib.defs.map DefI.name = defN := by kernel_rfl
theorem askOk : allN = askN := by kernel_rfl
theorem scopesOk : (lib.defs.all fun d => fsB d.N d.ps d.sc) = true := by kernel_rfl
theorem lamOk : ∀ d ∈ lib.defs, lib.lam d.name = true → (d.name, none) ∈ tfH := by
  have : (lib.defs.all fun d => !(lib.lam d.name) || decide ((d.name, (none : Option Str)) ∈ tfH)) = true := by kernel_rfl
  intro d hd hl
  have q := List.all_eq_true.mp this d hd
  rw [hl] at q
  exact of_decide_eq_true q
def tabs (K : PySem.W.Frag) : List (Addr × Addr) := tfH.map (He.cT K)
def tabT (K : PySem.W.Frag) : List (Addr × Str) := tfH.map fun p => ((He.cT K p).2, (envOfC p.1 default 0 0 .none).qual ++ "<lambda>")
section
variable {Pr : Program} {w : World} {K : PySem.W.Frag} {mg : Str → Option Value} {base h : Heap}
theorem libOk (X : K.In base) (G : base.Ns mainGlobals mg) (c : He.SaysX faH fnH [] tfH exB w h K) (hT : ∀ p ∈ tabs K, LamX.TabB base mg p.1 p.2) : LibOk Pr w K mg base (tabT K) (He.ga K) lib := by
  obtain ⟨Po, hb⟩ := iniText
  refine lib_of (hI := hIni) (Po := Po) headS X G (by rw [namesOk]; exact c) allD scopesOk List.mem_cons_self rfl rfl rfl hb rfl rfl (by kernel_rfl) (by kernel_rfl) bxIni lamOk fun p hp => ⟨hT _ (List.mem_map.mpr ⟨p, hp, rfl⟩), List.mem_map.mpr ⟨p, hp, rfl⟩, fun q hq e => ?_⟩
  obtain ⟨p', hp', rfl⟩ := List.mem_map.mp hq
  have one : ∀ a ∈ tfH, a = (("_law_judged" : Str), (none : Option Str)) := by
    intro a ha
    have ha' : a ∈ [(("_law_judged" : Str), (none : Option Str))] := ha
    simpa using ha'
  rw [one p hp, one p' hp']
theorem clsOk (X : K.In base) (G : base.Ns mainGlobals mg) (c : He.SaysX faH fnH [] tfH exB w h K) : ∀ k ∈ exL, ClsF K mg (He.ga K) allN k := by
  rw [askOk]
  intro k hk
  exact clsF_of X G c (by decide +kernel) (by decide +kernel) k (by revert k; decide +kernel)
theorem lawAt_ok {fa : Addr} (X : K.In h) (G : h.Ns mainGlobals mg) (hfa : mg ("law" : Str) = some (.ref fa)) (c : He.SaysX faH fnH [] tfH exB w h K) :
    LamX.LawAtS PySem.Challenge.rw_fifthhost_k01_nets_made_and_judged w K (L2N.CX PySem.Challenge.rw_fifthhost_k01_nets_made_and_judged.prog w) 60 63 "script" mg fa h := by
  obtain ⟨fd, FD⟩ := c.t.d.defs (d := hLaw) (by exact List.mem_of_getElem? (i := fnH.length - 1) rfl)
  have e : fa = He.fAd K hLaw.at_ := by
    have g := He.glo_ok X G (c.t.d.facts (f := .glo "law") (List.mem_append_left _ (List.mem_map.mpr ⟨_, by decide +kernel, rfl⟩)))
    rw [hfa] at g
    injection g with g
    injection g with g
  refine ⟨fd, tabs K, spLaw K (tabT K), ?_, ?_, ?_, ?_, ?_, ?_⟩
  · intro p hp
    obtain ⟨q, hq, rfl⟩ := List.mem_map.mp hp
    exact c.empty q hq
  · intro p hp
    obtain ⟨q, hq, rfl⟩ := List.mem_map.mp hp
    exact c.out q hq
  · intro p hp
    obtain ⟨q, hq, rfl⟩ := List.mem_map.mp hp
    exact PySem.W.codeHd_of_K X (c.hd q hq)
  · intro s u
    exact FunD.bindsA (ps := ["script"]) FD (fun kV doc pm an cdv ct us hl => bxLaw.1 _ _ _ _ kV doc pm an cdv ct us hl) s [u] rfl
  · intro H a ns _ _ hT hS
    refine ⟨a, ns, rfl, hS, fun p hp => ?_, fun _ => rfl⟩
    obtain ⟨q, hq, rfl⟩ := List.mem_map.mp hp
    exact ⟨#[], hT _ (List.mem_map.mpr ⟨q, hq, rfl⟩), trivial, fun pos cv hc => by cases hc⟩
  · intro base Xb Gb hT
    obtain ⟨f, fd', m1, ok, bx, x', q', a', b', s', FD'⟩ := law_fn (C := He.ga K) (libOk (Pr := PySem.Challenge.rw_fifthhost_k01_nets_made_and_judged.prog) Xb Gb c hT) (clsOk Xb Gb c)
    have ef : f = fa := by
      have m1' := m1.symm.trans hfa
      injection m1' with m1'
      injection m1' with m1'
    subst ef
    subst e
    rw [funD_one FD FD']
    exact ok
end
end Kx
open PySem PySem.W PySem.Calls PyProof.Rows
set_option maxRecDepth 100000 in
set_option maxHeartbeats 8000000 in
theorem PySem.Challenge.cw_fifthhost_k01_nets_made_and_judged_holds : PySem.Challenge.rw_fifthhost_k01_nets_made_and_judged.Holds := by
  w_on; o_law
  refine HandSHeadRun.head_any (r := Kx.R) (q := view Kx.R.prog [Kx.lawAt]) (H := Kx.hk) (ob := Kx.ob) (M := 20000) (loose := Kx.looseN) (d := HandSHeadRun.topDef Kx.R.prog Kx.lawAt) (kwd := []) Kx.ob_eq
    (by kernel_rfl) (fun s => by kernel_rfl) Kx.run (by kernel_rfl) (by kernel_rfl) (by kernel_rfl) (by rfl) (by first | assumption | decide +kernel) (by decide +kernel) ⟨rfl, rfl, rfl, rfl, rfl, by decide +kernel⟩ ?hw ?hc
  case hw => w_witness2
  case hc =>
    refine LamX.walk_ofTsE (l := PySem.Challenge.rw_fifthhost_k01_nets_made_and_judged) (n := 63) (k := 60) (x := "script") (CX := fun w => L2N.CX PySem.Challenge.rw_fifthhost_k01_nets_made_and_judged.prog w) rfl (by decide) (by kernel_rfl) ⟨rfl, by decide, by decide⟩ ?F ?C
    · intro w mg fa h Y G hmg0
      obtain ⟨K, KX, c⟩ := Y
      have hmg : mg ("law" : PySem.Str) = some (.ref fa) := by
        have e : (HandSHeadRun.topDef Kx.R.prog Kx.lawAt).name = ("law" : PySem.Str) := by kernel_rfl
        rw [← e]
        exact hmg0
      exact ⟨K, KX, Kx.lawAt_ok KX G hmg c⟩
    · intro w H s e s' z
      obtain ⟨_, _, _, _, _, _, _, _, _, _, _, _, f⟩ := z
      exact f
end
