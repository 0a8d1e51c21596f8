import PyProof.Rows.All
import Wide.All
import OpenK.AllK
import Wide.FinOn
import HandS.ForMost
import HandS.ForExc
import HandS.EndBits
import PyProof.ReprLen
import PyProof.ReprRoads
import PyProof.FitsInt
import HandS.TupAny
import HandS.Iter
import HandS.ExcIs
import HandS.TupMul
import HandS.IsInst
import HandS.Style
import KE.GoesMore
import KE.GoesEnum
import HandS.Rev
import HandS.Wide
import HandS.Deep
import HandS.Conv
import HandS.More
import HandS.TryOnly
import HandS.GenList
import HandS.FStr
import HandS.Text
import HandS.Zip
import KE.SortData
import HandS.SortKw
import KE.DataMinMax
import KE.GoesZip
import HandS.List
import KE.KExcIs
import HandS.Star
import HandS.Defaults
import KE.KIndexOf
import PyProof.FactsAll.tuple
import HandS.Dict
import KE.KDictDisplayH
import HandS.TupSets
import HandS.Head0
import HandS.Head1
import HandS.Head2
import HandS.HeadHook1
import HandS.HeadHook2
import PySem.Challenge.RW_coincounters_k12_amounts_within_steps
set_option Elab.async false
set_option linter.all false
set_option maxRecDepth 100000
set_option maxHeartbeats 4000000
section
namespace CG
open PySem PySem.Spec PyProof.Rows L2
/-- how far turning may still go -/
noncomputable def far (f : Int → Int) (B a : Int) : Nat := if f a < a then a.toNat + 1 else if f a = a then 0 else (B + 1 - a).toNat + 1
end CG
end
section
namespace CG
open PySem PySem.Spec PyProof.Rows L2
noncomputable def metS (s : Stmt) (j : Nat) : Stmt := match s with
  | .ClassDef _ _ _ body _ _ _ _ _ _ _ => body.getD j (.Pass ⟨0, 0, 0, 0⟩)
  | _ => .Pass ⟨0, 0, 0, 0⟩
end CG
end
section
namespace CG
open PySem PySem.Spec PyProof.Rows L2
noncomputable abbrev HAl : Type := Bool × List He.FnV
end CG
end
section
namespace CG
open PySem PySem.Spec PyProof.Rows L2
noncomputable def hObs (fa : List (PySem.W.Frag → Bool)) (fn : List He.FnD) (K : PySem.W.Frag) : HAl := ((fa.all fun f => f K) && fn.all fun d => (He.Fa.code d.at_ d.qual).ok K, fn.map fun d => He.fnObs K d.at_)
end CG
end
section
namespace CG
open PySem PySem.Spec PyProof.Rows L2
noncomputable def hVal (fn : List He.FnD) : HAl := (true, fn.map He.FnD.val)
end CG
end
section
namespace CG
open PySem PySem.Spec PyProof.Rows L2
noncomputable def HSays (fa : List (PySem.W.Frag → Bool)) (fn : List He.FnD) (K : PySem.W.Frag) : Prop := hObs fa fn K = hVal fn
end CG
end
section
namespace CG
open PySem PySem.Spec PyProof.Rows L2
/-- the objects that an object names, as far as the facts need them -/
noncomputable def refsE (o : Obj) : List Addr := match o.data with
  | .dict es _ => es.toList.flatMap fun e => He.refV e.val
  | .func fd => He.refV fd.code ++ He.refV fd.kwdefaults
  | .cls cd => [cd.ns]
  | _ => []
end CG
end
section
namespace CG
open PySem PySem.Spec PyProof.Rows L2
noncomputable def lvE (g : Addr → Option Obj) (as : List Addr) : List Addr := as.flatMap fun a => match g a with
  | some o => refsE o
  | none => []
end CG
end
section
namespace CG
open PySem PySem.Spec PyProof.Rows L2
/-- a list with its items at hand -/
noncomputable def frcL {α : Type} : List Nat → (List Nat → α) → α
  | [], k => k []
  | a :: r, k => HandSHeadRun.frNat a fun b => frcL r fun r => k (b :: r)
end CG
end
section
namespace CG
open PySem PySem.Spec PyProof.Rows L2
theorem frcL_eq {α : Type} : ∀ (l : List Nat) (k : List Nat → α), frcL l k = k l
  | [], k => rfl
  | a :: r, k => by
    unfold frcL
    rw [HandSHeadRun.frNat_eq]
    exact frcL_eq r _
end CG
end
section
namespace CG
open PySem PySem.Spec PyProof.Rows L2
/-- what the module's names reach in four steps -/
noncomputable def asP {α : Type} (g : Addr → Option Obj) (k : List Addr → α) : α := frcL (lvE g [mainGlobals]) fun l1 => frcL (lvE g l1) fun l2 => frcL (lvE g l2) fun l3 => frcL (lvE g l3) fun l4 => k (mainGlobals :: (l1 ++ (l2 ++ (l3 ++ l4))))
end CG
end
section
namespace CG
open PySem PySem.Spec PyProof.Rows L2
noncomputable def asL (g : Addr → Option Obj) : List Addr := mainGlobals :: (lvE g [mainGlobals] ++ (lvE g (lvE g [mainGlobals]) ++ (lvE g (lvE g (lvE g [mainGlobals])) ++ lvE g (lvE g (lvE g (lvE g [mainGlobals]))))))
end CG
end
section
namespace CG
open PySem PySem.Spec PyProof.Rows L2
theorem asP_eq {α : Type} {g : Addr → Option Obj} {k : List Addr → α} : asP g k = k (asL g) := by
  unfold asP asL
  rw [frcL_eq, frcL_eq, frcL_eq, frcL_eq]
end CG
end
section
namespace CG
open PySem PySem.Spec PyProof.Rows L2
/-- the part of the heap, each object at hand -/
noncomputable def frcF {α : Type} (g : Addr → Option Obj) : List Addr → (PySem.W.Frag → α) → α
  | [], k => k []
  | a :: r, k => match g a with
    | some ⟨c, d, t, s⟩ => frcF g r fun f => k ((a, ⟨c, d, t, s⟩) :: f)
    | none => frcF g r k
end CG
end
section
namespace CG
open PySem PySem.Spec PyProof.Rows L2
theorem frcF_eq {α : Type} {g : Addr → Option Obj} : ∀ (l : List Addr) (k : PySem.W.Frag → α), frcF g l k = k (He.frG g l)
  | [], k => rfl
  | a :: r, k => by
    unfold frcF He.frG
    rw [List.filterMap_cons]
    cases e : g a with
    | none => exact frcF_eq r k
    | some o =>
      obtain ⟨c, d, t, s⟩ := o
      exact frcF_eq r _
end CG
end
section
namespace CG
open PySem PySem.Spec PyProof.Rows L2
noncomputable def hObsG (n : Nat) (fa : List (PySem.W.Frag → Bool)) (fn : List He.FnD) (g : Addr → Option Obj) : HAl := asP g fun l => frcF g l fun f => hObs fa fn f
end CG
end
section
namespace CG
open PySem PySem.Spec PyProof.Rows L2
theorem hObsG_eq {n : Nat} {fa : List (PySem.W.Frag → Bool)} {fn : List He.FnD} {g : Addr → Option Obj} : hObsG n fa fn g = hObs fa fn (He.frG g (asL g)) := by
  unfold hObsG
  rw [asP_eq, frcF_eq]
end CG
end
section
namespace CG
open PySem PySem.Spec PyProof.Rows L2
noncomputable def hHook (n : Nat) (fa : List (PySem.W.Frag → Bool)) (fn : List He.FnD) : PySem.W.Hook where
  α := HAl
  obs := fun s => hObsG n fa fn s.heap.get?
  val := fun _ => hVal fn
  says := fun _ h => ∃ K : PySem.W.Frag, K.In h ∧ HSays fa fn K
  of := fun _ _ e => ⟨_, He.frG_in, hObsG_eq.symm.trans e⟩
  keeps := fun _ _ _ ⟨K, hK, c⟩ k => ⟨K, PySem.W.Frag.In.keeps hK k, c⟩
end CG
end
section
namespace CG
open PySem PySem.Spec PyProof.Rows L2
/-- an int among the names -/
noncomputable def intB (K : PySem.W.Frag) (x : Str) (i : Int) : Bool := match PySem.W.nsIn K mainGlobals x with
  | some (some (.int j _)) => decide (j = i)
  | _ => false
end CG
end
section
namespace CG
open PySem PySem.Spec PyProof.Rows L2
noncomputable def kdB (K : PySem.W.Frag) (p : Str × Option Str) (v : Value) : Bool := match K.lookup (He.fAd K p) with
  | some ⟨_, _, .func fd, _⟩ => decide (fd.kwdefaults = v)
  | _ => false
end CG
end
section
namespace CG
open PySem PySem.Spec PyProof.Rows L2
/-- an error class with an own __init__ -/
noncomputable def lowIn (K : PySem.W.Frag) (C : Addr) (bm : List Value) (new : String) : Bool := match K.lookup C with
  | some ⟨.type "type", _, .cls cd, sl⟩ => (match cd.mro, sl.toList with
    | .ref C' :: bm', [_, _, _, _, some (.builtin n), _] => C' == C && n == new && !cd.hasDel && decide (bm' = bm) && cd.hasDict
    | _, _ => false)
  | _ => false
end CG
end
section
namespace CG
open PySem PySem.Spec PyProof.Rows L2
noncomputable def topS (i : Nat) : Stmt := PySem.Challenge.pw_coincounters_k12_amounts_within_steps.main.body.getD i (.Pass ⟨0, 0, 0, 0⟩)
end CG
end
section
namespace CG
open PySem PySem.Spec PyProof.Rows L2
noncomputable abbrev sPChanged : Stmt := topS 7
end CG
end
section
namespace CG
open PySem PySem.Spec PyProof.Rows L2
noncomputable abbrev sPAfter_any_counter : Stmt := topS 9
end CG
end
section
namespace CG
open PySem PySem.Spec PyProof.Rows L2
noncomputable abbrev sPAmounts_of_kind : Stmt := topS 10
end CG
end
section
namespace CG
open PySem PySem.Spec PyProof.Rows L2
noncomputable abbrev sPAmounts_within : Stmt := topS 11
end CG
end
section
namespace CG
open PySem PySem.Spec PyProof.Rows L2
noncomputable abbrev sDeck : Stmt := topS 13
end CG
end
section
namespace CG
open PySem PySem.Spec PyProof.Rows L2
noncomputable abbrev sDraw : Stmt := topS 14
end CG
end
section
namespace CG
open PySem PySem.Spec PyProof.Rows L2
noncomputable abbrev sBoard : Stmt := topS 15
end CG
end
section
namespace CG
open PySem PySem.Spec PyProof.Rows L2
noncomputable abbrev sCoins : Stmt := topS 16
end CG
end
section
namespace CG
open PySem PySem.Spec PyProof.Rows L2
noncomputable abbrev sReached : Stmt := topS 17
end CG
end
section
namespace CG
open PySem PySem.Spec PyProof.Rows L2
noncomputable abbrev sTold : Stmt := topS 18
end CG
end
section
namespace CG
open PySem PySem.Spec PyProof.Rows L2
noncomputable abbrev sLaw : Stmt := topS 19
end CG
end
section
namespace CG
open PySem PySem.Spec PyProof.Rows L2
noncomputable def hFa0 : List (PySem.W.Frag → Bool) := [fun K => He.eqO (PySem.W.nsIn K mainGlobals "_law_deck") (some (some (.ref (He.ga K "_law_deck")))), fun K => PySem.W.keepIn K (.ref (He.ga K "_law_deck")), fun K => He.eqO (PySem.W.nsIn K mainGlobals "_law_draw") (some (some (.ref (He.ga K "_law_draw")))), fun K => PySem.W.keepIn K (.ref (He.ga K "_law_draw")), fun K => He.eqO (PySem.W.nsIn K mainGlobals "_law_board") (some (some (.ref (He.ga K "_law_board")))), fun K => PySem.W.keepIn K (.ref (He.ga K "_law_board")), fun K => He.eqO (PySem.W.nsIn K mainGlobals "_law_coins") (some (some (.ref (He.ga K "_law_coins")))), fun K => PySem.W.keepIn K (.ref (He.ga K "_law_coins")), fun K => He.eqO (PySem.W.nsIn K mainGlobals "_law_reached") (some (some (.ref (He.ga K "_law_reached")))), fun K => PySem.W.keepIn K (.ref (He.ga K "_law_reached")), fun K => He.eqO (PySem.W.nsIn K mainGlobals "_law_told") (some (some (.ref (He.ga K "_law_told")))), fun K => PySem.W.keepIn K (.ref (He.ga K "_law_told")), fun K => He.eqO (PySem.W.nsIn K mainGlobals "changed") (some (some (.ref (He.ga K "changed")))), fun K => PySem.W.keepIn K (.ref (He.ga K "changed")), fun K => He.eqO (PySem.W.nsIn K mainGlobals "after_any_counter") (some (some (.ref (He.ga K "after_any_counter")))), fun K => PySem.W.keepIn K (.ref (He.ga K "after_any_counter")), fun K => He.eqO (PySem.W.nsIn K mainGlobals "amounts_of_kind") (some (some (.ref (He.ga K "amounts_of_kind")))), fun K => PySem.W.keepIn K (.ref (He.ga K "amounts_of_kind")), fun K => He.eqO (PySem.W.nsIn K mainGlobals "amounts_within") (some (some (.ref (He.ga K "amounts_within")))), fun K => PySem.W.keepIn K (.ref (He.ga K "amounts_within")), fun K => He.eqO (PySem.W.nsIn K mainGlobals "law") (some (some (.ref (He.ga K "law")))), fun K => PySem.W.keepIn K (.ref (He.ga K "law")), fun K => He.eqO (PySem.W.nsIn K mainGlobals "len") (some none), fun K => He.eqO (PySem.W.nsIn K mainGlobals "abs") (some none), fun K => He.eqO (PySem.W.nsIn K mainGlobals "range") (some none), fun K => He.eqO (PySem.W.nsIn K mainGlobals "repr") (some none), fun K => He.eqO (PySem.W.nsIn K mainGlobals "min") (some none), fun K => He.eqO (PySem.W.nsIn K mainGlobals "max") (some none), fun K => He.eqO (PySem.W.nsIn K mainGlobals "int") (some none), fun K => He.eqO (PySem.W.nsIn K mainGlobals "tuple") (some none)]
end CG
end
section
namespace CG
open PySem PySem.Spec PyProof.Rows L2
noncomputable def hFa1 : List (PySem.W.Frag → Bool) := [fun K => He.eqO (PySem.W.nsIn K mainGlobals "list") (some none), fun K => He.eqO (PySem.W.nsIn K mainGlobals "bool") (some none), fun K => He.eqO (PySem.W.nsIn K mainGlobals "isinstance") (some none), fun K => He.eqO (PySem.W.nsIn K mainGlobals "enumerate") (some none), fun K => intB K "SMALL_STEPS" 6, fun K => kdB K ("TooMany", some "__init__") .none, fun K => He.eqO (PySem.W.nsIn K mainGlobals "TooMany") (some (some (.ref (He.ga K "TooMany")))), fun K => lowIn K (He.ga K "TooMany") [.ref (He.ga K "CoinError"), .type "ValueError", .type "Exception", .type "BaseException", .type "object"] "ValueError.__new__", fun K => He.eqO (PySem.W.findIn K (.ref (He.ga K "TooMany")) "__setattr__") (some (some (.builtin "object.__setattr__"))), fun K => He.eqO (PySem.W.findIn K (.ref (He.ga K "TooMany")) "__getattribute__") (some (some (.builtin "BaseException.__getattribute__"))), fun K => He.eqO (PySem.W.findIn K (.ref (He.ga K "TooMany")) "__getattr__") (some none), fun K => He.eqO (PySem.W.findIn K (.ref (He.ga K "TooMany")) "bound") (some none), fun K => He.eqO (PySem.W.findIn K (.ref (He.ga K "TooMany")) "__init__") (some (some (.ref (He.ma K (He.ga K "TooMany") "__init__")))), fun K => decide (PySem.W.typeIn K (.ref (He.ma K (He.ga K "TooMany") "__init__")) = some (.type "function")), fun K => PySem.W.keepIn K (.ref (He.ga K "TooMany")), fun K => decide (PySem.W.subIn K (.ref (He.ga K "TooMany")) (.type "BaseException") = some true), fun K => decide (PySem.W.typeIn K (.ref (He.ga K "TooMany")) = some (.type "type")), fun K => PySem.W.hasDictIn K (He.ga K "TooMany"), fun K => decide (PySem.W.subIn K (.ref (He.ga K "TooMany")) (.ref (He.ga K "TooMany")) = some true), fun K => He.eqO (PySem.W.nsIn K mainGlobals "CoinError") (some (some (.ref (He.ga K "CoinError")))), fun K => He.eqO (PySem.W.nsIn K mainGlobals "BadRoute") (some (some (.ref (He.ga K "BadRoute")))), fun K => He.eqO (PySem.W.nsIn K mainGlobals "TooLong") (some (some (.ref (He.ga K "TooLong")))), fun K => decide ((He.ga K "TooMany") ≠ (He.ga K "BadRoute")), fun K => PySem.W.hasDictIn K (He.ga K "BadRoute"), fun K => decide (PySem.W.typeIn K (.ref (He.ga K "BadRoute")) = some (.type "type")), fun K => decide (PySem.W.subIn K (.ref (He.ga K "TooMany")) (.ref (He.ga K "BadRoute")) = some false), fun K => decide ((He.ga K "TooMany") ≠ (He.ga K "TooLong")), fun K => PySem.W.hasDictIn K (He.ga K "TooLong"), fun K => decide (PySem.W.typeIn K (.ref (He.ga K "TooLong")) = some (.type "type")), fun K => decide (PySem.W.subIn K (.ref (He.ga K "TooMany")) (.ref (He.ga K "TooLong")) = some false)]
end CG
end
section
namespace CG
open PySem PySem.Spec PyProof.Rows L2
noncomputable def hFa2 : List (PySem.W.Frag → Bool) := [fun K => decide (PySem.W.subIn K (.ref (He.ga K "CoinError")) (.type "BaseException") = some true), fun K => PySem.W.hasDictIn K (He.ga K "CoinError"), fun K => decide (PySem.W.typeIn K (.ref (He.ga K "CoinError")) = some (.type "type")), fun K => decide (PySem.W.subIn K (.ref (He.ga K "TooMany")) (.ref (He.ga K "CoinError")) = some true), fun K => He.eqO (PySem.W.nsIn K mainGlobals "LookupError") (some none), fun K => decide (PySem.W.subIn K (.ref (He.ga K "TooMany")) (.type "LookupError") = some false), fun K => He.eqO (PySem.W.nsIn K mainGlobals "sorted") (some none), fun K => He.eqO (PySem.W.nsIn K mainGlobals "set") (some none), fun K => He.eqO (PySem.W.findIn K (.ref (He.ga K "TooMany")) "__getattribute__") (some (some (.builtin "BaseException.__getattribute__"))), fun K => He.eqO (PySem.W.findIn K (.ref (He.ga K "TooMany")) "__getattr__") (some none), fun K => decide (PySem.W.subIn K (.ref (He.ga K "TooMany")) (.type "BaseException") = some true), fun K => PySem.W.hasDictIn K (He.ga K "TooMany"), fun K => He.eqO (PySem.W.findIn K (.ref (He.ga K "TooMany")) "__class__") (some (some (.builtin "object.__class__"))), fun K => He.eqO (PySem.W.specialIn K (.builtin "object.__class__") "__get__") (some (some (.builtin "getset_descriptor.__get__"))), fun K => decide (PySem.W.takesIn K (.builtin "object.__class__") = some true), fun K => decide (PySem.W.mroIn K (He.ga K "TooMany") (.type "object") = some true)]
end CG
end
section
namespace CG
open PySem PySem.Spec PyProof.Rows L2
noncomputable def hFa : List (PySem.W.Frag → Bool) := hFa0 ++ (hFa1 ++ (hFa2))
end CG
end
section
namespace CG
open PySem PySem.Spec PyProof.Rows L2
noncomputable def hFn0 : List He.FnD := [⟨("_law_deck", none), "_law_deck", "_law_deck", defArgs sDeck, defBody sDeck, defScope sDeck⟩, ⟨("_law_draw", none), "_law_draw", "_law_draw", defArgs sDraw, defBody sDraw, defScope sDraw⟩, ⟨("_law_board", none), "_law_board", "_law_board", defArgs sBoard, defBody sBoard, defScope sBoard⟩, ⟨("_law_coins", none), "_law_coins", "_law_coins", defArgs sCoins, defBody sCoins, defScope sCoins⟩, ⟨("_law_reached", none), "_law_reached", "_law_reached", defArgs sReached, defBody sReached, defScope sReached⟩, ⟨("_law_told", none), "_law_told", "_law_told", defArgs sTold, defBody sTold, defScope sTold⟩, ⟨("changed", none), "changed", "changed", defArgs sPChanged, defBody sPChanged, defScope sPChanged⟩, ⟨("after_any_counter", none), "after_any_counter", "after_any_counter", defArgs sPAfter_any_counter, defBody sPAfter_any_counter, defScope sPAfter_any_counter⟩, ⟨("amounts_of_kind", none), "amounts_of_kind", "amounts_of_kind", defArgs sPAmounts_of_kind, defBody sPAmounts_of_kind, defScope sPAmounts_of_kind⟩, ⟨("amounts_within", none), "amounts_within", "amounts_within", defArgs sPAmounts_within, defBody sPAmounts_within, defScope sPAmounts_within⟩, ⟨("law", none), "law", "law", defArgs sLaw, defBody sLaw, defScope sLaw⟩, ⟨("TooMany", some "__init__"), "__init__", "TooMany.__init__", defArgs (metS (topS 5) 0), defBody (metS (topS 5) 0), defScope (metS (topS 5) 0)⟩]
end CG
end
section
namespace CG
open PySem PySem.Spec PyProof.Rows L2
noncomputable def hFn : List He.FnD := hFn0
end CG
end
section
namespace CG
open PySem PySem.Spec PyProof.Rows L2
noncomputable def hNm0 : List PySem.Str := ["SMALL_STEPS", "CoinError", "BadRoute", "TooLong", "TooMany", "changed", "after_any_counter", "amounts_of_kind", "amounts_within", "_law_deck", "_law_draw", "_law_board", "_law_coins", "_law_reached", "_law_told"]
end CG
end
section
namespace CG
open PySem PySem.Spec PyProof.Rows L2
noncomputable def hNm : List PySem.Str := hNm0
end CG
end
section
namespace CG
open PySem PySem.Spec PyProof.Rows L2
noncomputable abbrev hR : PySem.W.OpenRow := PySem.W.OpenLaw.row PySem.Challenge.rw_coincounters_k12_amounts_within_steps
end CG
end
section
namespace CG
open PySem PySem.Spec PyProof.Rows L2
set_option maxHeartbeats 0 in
theorem hRun (w : World) : HandSHeadRun.RunEq hR (PySem.W.view hR.prog [19]) (hHook 5 hFa hFn) (fun s => hObsG 5 hFa hFn (HandSHeadRun.getT s)) 20000 hNm w := by
  intro os
  kernel_rfl
end CG
end
namespace CG
open PySem PySem.Spec PyProof.Rows L2
/-- the def at f keeps the promise sp wherever no guard is up and there is room -/
structure FnG (pr : Program) (wo : World) (K : PySem.W.Frag) (mg : Str → Option Value) (ba : Heap) (cx : CXT)
    (k : Nat) (f : Addr) (fd : FuncData) (ps : List Str) (sp : Sp) : Prop where
  len : ∀ vs H Q E, sp vs H Q E → vs.length = ps.length
  run : ∀ (A : Around) (out : List Env) (s : Shared) (H : Hp) (ar : Args) (us : List Value) (vs : List V) (Q : VK) (E : XK),
    A.guards = some [] → Room k A → Env0 pr wo K mg ba A out s H → BindsTo s fd ar (ps.zip us) → Vals vs us → sp vs H Q E →
    codeAny (model pr wo) A (.call (.ref f) ar) (CR cx out pr wo H s Q E) s
section
variable {pr : Program} {wo : World} {K : PySem.W.Frag} {mg : Str → Option Value} {ba : Heap} {cx : CXT}
theorem FnG.mono {j k : Nat} {f : Addr} {fd : FuncData} {ps : List Str} {sp : Sp} (G : FnG pr wo K mg ba cx j f fd ps sp) (h : j ≤ k) :
    FnG pr wo K mg ba cx k f fd ps sp :=
  ⟨G.len, fun A out s H ar us vs Q E hg hr => G.run A out s H ar us vs Q E hg (hr.mono h)⟩
theorem FnG.of {k : Nat} {f : Addr} {fd : FuncData} {ps : List Str} {sp : Sp} (G : FnOk pr wo K mg ba cx k f fd ps sp) :
    FnG pr wo K mg ba cx k f fd ps sp :=
  ⟨G.len, fun A out s H ar us vs Q E _ hr => G.run A out s H ar us vs Q E hr⟩
theorem FnG.imp {k : Nat} {f : Addr} {fd : FuncData} {ps : List Str} {sp sp' : Sp} (G : FnG pr wo K mg ba cx k f fd ps sp)
    (h : ∀ vs H Q E, sp' vs H Q E → sp vs H Q E) : FnG pr wo K mg ba cx k f fd ps sp' :=
  ⟨fun vs H Q E q => G.len vs H Q E (h _ _ _ _ q), fun A out s H ar us vs Q E hg hr he hb hv hs => G.run A out s H ar us vs Q E hg hr he hb hv (h _ _ _ _ hs)⟩
/-- a def by its body -/
theorem fnG_of {k : Nat} {f : Addr} {nm qu : Str} {pa : Arguments} {bd : List Stmt} {sc : Scope} {v1 v2 v3 v4 cd v5 oc : Value} {an od : Option Addr}
    {sl : Array (Option Value)} {N ps : List Str} {sp : Sp}
    (lk : K.lookup f = some ⟨oc, od, .func (PySem.W.fnOf nm qu pa bd sc v1 v2 v3 v4 an cd v5), sl⟩)
    (hcd : PySem.W.codeIn K cd qu = true) (S : FnScope N ps sc)
    (len : ∀ vs H Q E, sp vs H Q E → vs.length = ps.length)
    (hbo : ∀ (A : Around) (out : List Env) (s : Shared) (H : Hp) (vs : List V) (Q : VK) (E : XK), A.guards = some [] →
      Room k (A.deeper (envOfC qu sc s.heap.objs.size f cd)) → sp vs H Q E →
      ∃ t, PSs (cxOf cx pr wo K mg ba N qu sc f cd A out s H E) bd t ∧ t { nx := fun _ H' => Q .non H', rt := Q } (start N vs) H) :
    FnG pr wo K mg ba cx (k + 1) f (PySem.W.fnOf nm qu pa bd sc v1 v2 v3 v4 an cd v5) ps sp := by
  refine ⟨len, fun A out s H ar us vs Q E hgd hr e0 hb r hsp => ?_⟩
  have hl := len _ _ _ _ hsp
  have kin : K.In s.heap := e0.mod.kin.keeps fun b o z => (e0.bs b o z).1
  have nol : s.heap.NoLimit := e0.mod.nolimit.keeps fun b o z => (e0.bs b o z).1
  have kinds : ∀ y ∈ ps.zip us, sc.names.lookup y.1 = some .local ∨
      (sc.names.lookup y.1 = some .cell ∧ ((cellsFrom (s.heap.objs.size + 1) sc.names []).lookup y.1).isSome = true) := by
    rintro ⟨n, v⟩ hy
    rcases S.par n (List.of_mem_zip hy).1 with z | z
    · exact .inl z
    · exact .inr ⟨z, PySem.W.cellsFrom_some _ _ _ (.inl z)⟩
  refine codeAny_call_function hr.depth (kin _ _ lk) rfl S.co S.gen rfl (PySem.W.codeRec_of kin hcd) (hb _ _ _ _ ?_)
  refine wpAny_newFunctionEnv_cells S.kind kinds fun ev hev s1 x => ?_
  subst hev
  refine ⟨nol.keeps x.toInCall.keep, codeAny_func ?_⟩
  obtain ⟨t, ht, hq⟩ := hbo A out s H vs Q E hgd (hr.deeper _) hsp
  have I0 : Inv (cxOf cx pr wo K mg ba N qu sc f cd A out s H E) [] (start N vs) H s1 := inv_start S hr.hd e0 hl r x
  refine wpAny_mono (ht.run [] s1 (start N vs) H _ I0 hq) (fun fl s2 hs => ?_) fun e s2 hs => hs
  have done : ∀ {τ : L2.St} {H2 : Hp} {v : V} {u : Value}, Inv (cxOf cx pr wo K mg ba N qu sc f cd A out s H E) [] τ H2 s2 →
      RelV v u → Q v H2 → CE out pr wo H s Q u s2 := fun {τ H2 v u} J rv q => ⟨v, H2, J.os, J.bare, J.base, J.hok, rv, q⟩
  cases fl with
  | ret u =>
    obtain ⟨v, τ, H2, J, rv, q⟩ := hs
    exact done J rv q
  | next =>
    obtain ⟨τ, H2, J, q⟩ := hs
    exact done (v := V.non) (u := Value.none) J rfl q
  | brk =>
    obtain ⟨_, _, _, q⟩ := hs
    exact q.elim
  | cont =>
    obtain ⟨_, _, _, q⟩ := hs
    exact q.elim
theorem okG {x qu : Str} {st : Stmt} {f : Addr} {fd : FuncData} {N ps : List Str} {k : Nat} {sp : Sp} (F : Fun K x qu st f fd)
    (S : FnScope N ps (defScope st)) (len : ∀ vs H Q E, sp vs H Q E → vs.length = ps.length)
    (hbo : ∀ (cd : Value) (A : Around) (out : List Env) (s : Shared) (H : Hp) (vs : List V) (Q : VK) (E : XK), A.guards = some [] →
      Room k (A.deeper (envOfC qu (defScope st) s.heap.objs.size f cd)) → sp vs H Q E →
      ∃ t, PSs (cxOf CX0 pr wo K mg ba N qu (defScope st) f cd A out s H E).nox (defBody st) t ∧
        t { nx := fun _ H' => Q .non H', rt := Q } (start N vs) H) : FnG pr wo K mg ba CX0 (k + 1) f fd ps sp := by
  obtain ⟨oc, od, v2, v3, v4, an, cd, v5, sl, rfl, lk, hcd⟩ := F.ex
  refine fnG_of lk hcd S len fun A out s H vs Q E hg hr hsp => ?_
  obtain ⟨t, h, q⟩ := hbo cd A out s H vs Q E hg hr hsp
  exact ⟨t, h.nox, q⟩
theorem okGX {x qu : Str} {st : Stmt} {f : Addr} {fd : FuncData} {N ps : List Str} {k : Nat} {sp : Sp} (F : Fun K x qu st f fd)
    (S : FnScope N ps (defScope st)) (len : ∀ vs H Q E, sp vs H Q E → vs.length = ps.length)
    (hbo : ∀ (cd : Value) (A : Around) (out : List Env) (s : Shared) (H : Hp) (vs : List V) (Q : VK) (E : XK), A.guards = some [] →
      Room k (A.deeper (envOfC qu (defScope st) s.heap.objs.size f cd)) → sp vs H Q E →
      ∃ t, PSs (cxOf (L2.CX pr wo) pr wo K mg ba N qu (defScope st) f cd A out s H E) (defBody st) t ∧
        t { nx := fun _ H' => Q .non H', rt := Q } (start N vs) H) : FnG pr wo K mg ba (L2.CX pr wo) (k + 1) f fd ps sp := by
  obtain ⟨oc, od, v2, v3, v4, an, cd, v5, sl, rfl, lk, hcd⟩ := F.ex
  exact fnG_of lk hcd S len fun A out s H vs Q E hg hr hsp => hbo cd A out s H vs Q E hg hr hsp
end
section
variable {X : Cx} {cx : CXT} {k : Nat} {f : Addr} {fd : FuncData} {ps : List Str} {sp : Sp} {dvs : List V} {ds : List Value} {E : XK}
  {x : Str} {p pos : Pos} {e : Expr} {es : List Expr} {t : TA}
theorem runG {pins : List (Addr × Obj)} {σ : L2.St} {H : Hp} {s : Shared} {Q : VK} {us : List Value} {vs : List V}
    (G : FnG X.prog X.w X.K X.mg X.base cx k f fd ps sp) (hgd : X.A.guards = some []) (hr : Room k X.A) (hb : Binds X.K fd ps ds)
    (hd : Vals dvs ds) (hx : Passes cx X E) (I : Inv X pins σ H s) (r : Vals vs us) (h : sp (vs ++ dvs) H Q E) :
    wpAny (model X.prog X.w) X.A (call (.ref f) us) (EP X pins σ Q) X.xe s := by
  have rr : Vals (vs ++ dvs) (us ++ ds) := r.append hd
  have hl : (us ++ ds).length = ps.length := by
    rw [← rr.length]
    exact G.len _ _ _ _ h
  have go := G.run X.A X.stack s H ⟨us, []⟩ (us ++ ds) (vs ++ dvs) Q E hgd hr I.env0 (hb s us I.kIn hl) rr h
  refine wpAny_call (codeAny_mono go fun w s2 hq => ?_)
  cases w with
  | error er => exact hx pins σ H s er s2 I hq
  | ok fl =>
    cases fl with
    | ret u => exact I.after hq
    | next => exact hq.elim
    | brk => exact hq.elim
    | cont => exact hq.elim
/-- f(e, ..) -/
theorem pe_callG (G : FnG X.prog X.w X.K X.mg X.base cx k f fd ps sp) (hgd : X.A.guards = some []) (hr : Room k X.A) (hg : Gl X x)
    (hm : X.mg x = some (.ref f)) (hk : PySem.W.keepIn X.K (.ref f) = true) (hb : Binds X.K fd ps ds) (hd : Vals dvs ds)
    (hx : Passes cx X E) (ha : PA X (e :: es) t) (hdb : (x == ("__debug__" : Str)) = false := by decide)
    (he : starEach (e :: es) X.env = (false, eval e X.env) :: starEach es X.env := by rfl)
    (hpl : (backTo pos (starEach es X.env)).any (·.1) = false := by rfl) : PE X (.Call (.Name x p) (e :: es) [] pos) (tCall sp dvs E t) := by
  refine ⟨fun pins s σ H Q I h => wpAny_Call_Name_kw (ld_glob I hg hm ?_ hdb)⟩
  refine PySem.W.callWith_K (h₀ := X.base) I.ok.mod.kin hk ?_ he hpl
  exact thn (ha.run pos pins s σ H _ I h) fun us s1 ⟨vs, H1, I1, r, q⟩ => ⟨I1.kIn, runG G hgd hr hb hd hx I1 r q⟩
end
/-- the law's call at the heap behind the top -/
theorem lawG {pr : Program} {wo : World} {K : PySem.W.Frag} {mg mb : Str → Option Value} {cx : CXT} {k : Nat} {fa a : Addr} {fd : FuncData}
    {x : Str} {sp : Sp} {s : Shared} {vs : List Value} {ns : List Int}
    (kin : K.In s.heap) (hns : s.heap.Ns mainGlobals mg) (hbn : s.heap.Ns builtinsNs mb) (hbb : ∀ x : Str, x ≠ "__name__" → mb x = bootBuiltins x)
    (hlim : s.heap.NoLimit) (hg : s.gens = #[]) (ha : s.heap.get? a = some { cls := .type "list", data := .seq vs.toArray })
    (hi : IntsAre vs ns) (hl : ns.length ≤ sizeLine) (hr : Room k callerA)
    (F : ∀ ba : Heap, K.In ba → ba.Ns mainGlobals mg → FnG pr wo K mg ba cx k fa fd [x] sp)
    (hbind : ∀ (s : Shared) (u : Value), BindsTo s fd ⟨[u], []⟩ [(x, u)])
    (hsp : ∀ H : Hp, Only H → SqL K H a (ns.map V.int) → sp [.ref a] H (fun v _ => v = .bl true) fun _ _ _ => False)
    (hCX : ∀ H e s', cx [] H s (fun _ _ _ => False) e s' → False) :
    codeAny (model pr wo) callerA (.call (.ref fa) ⟨[.ref a], []⟩)
      (fun r s' => r = .ok (.ret (.bool true)) ∧ OldK s.heap s'.heap ∧ s'.os = s.os ∧ AllBare s'.gens) s := by
  have rv := vals_ints hi
  have lenV := hi.length
  have core : ∀ H : Hp, Only H → SqL K H a (ns.map V.int) → HOk pr wo H s.heap → (∀ b, H b ≠ none → b = a) → (H a ≠ none → K.lookup a = none) →
      codeAny (model pr wo) callerA (.call (.ref fa) ⟨[.ref a], []⟩)
        (fun r s' => r = .ok (.ret (.bool true)) ∧ OldK s.heap s'.heap ∧ s'.os = s.os ∧ AllBare s'.gens) s := by
    intro H hO hS hok hA hK
    have down : ∀ {b : Addr} {o : Obj}, s.heap.get? b = some o → H b = none → (hidT s.heap H).get? b = some o := fun e n => hidT_get e n
    have free : ∀ {b : Addr} {o : Obj} {es : Array DictEntry} {ep : Nat}, s.heap.get? b = some o → o.data = .dict es ep → H b = none := by
      intro b o es ep z d
      cases q : H b with
      | none => rfl
      | some u =>
        have eb : b = a := hA b (by rw [q]; simp)
        subst eb
        rw [ha] at z
        cases z
        have d2 : Data.seq vs.toArray _ = Data.dict es ep := d
        cases d2
    have nsD : ∀ {b : Addr} {m : Str → Option Value}, s.heap.Ns b m → (hidT s.heap H).Ns b m := by
      rintro b m ⟨o, es, ep, z, d, r⟩
      exact ⟨o, es, ep, down z (free z d), d, r⟩
    have kinD : K.In (hidT s.heap H) := by
      intro b o z
      refine down (kin b o z) ?_
      cases q : H b with
      | none => rfl
      | some u =>
        have eb : b = a := hA b (by rw [q]; simp)
        subst eb
        rw [hK (by rw [q]; simp)] at z
        cases z
    obtain ⟨mc, l1, l2⟩ := hlim
    have md : Mod K mg (hidT s.heap H) := ⟨kinD, nsD hns, ⟨mb, nsD hbn, hbb⟩, ⟨mc, nsD l1, l2⟩⟩
    have e0 : Env0 pr wo K mg (hidT s.heap H) callerA [] s H :=
      ⟨rfl, md, fun b o z => of_hidT z, Nat.le_of_eq (hidT_size _ _), trivial, fun b hb => absurd (show b ∈ ([] : List Addr) from hb) (by simp), hok, .of_eq hg⟩
    have go := (F _ kinD (nsD hns)).run callerA [] s H ⟨[.ref a], []⟩ [.ref a] [.ref a] _ _ rfl hr e0 (hbind s (.ref a)) (.cons rfl .nil) (hsp H hO hS)
    refine codeAny_mono go fun r s' h => ?_
    cases r with
    | error er => exact (hCX H er s' h).elim
    | ok fl =>
      cases fl with
      | next => exact h.elim
      | brk => exact h.elim
      | cont => exact h.elim
      | ret u =>
        obtain ⟨v, H', os, bare, un, hok', r', q⟩ := h
        have q' : v = .bl true := q
        subst q'
        obtain rfl : u = Value.bool true := r'
        refine ⟨rfl, OldK.of_keep fun b o z => ?_, os, bare⟩
        cases q : H b with
        | none => exact un.keep b o z q (fun w => absurd (show b ∈ ([] : List Addr) from w) (by simp)) (by simp)
        | some u =>
          rcases hO b with w | ⟨ob, xs, w⟩
          · rw [q] at w
            cases w
          · have w2 := un.frzs b ob _ w
            obtain ⟨g1, _⟩ := hok b _ w
            obtain ⟨g2, _⟩ := hok' b _ w2
            rw [z] at g1
            cases g1
            exact g2
  cases hk : K.lookup a with
  | some o =>
    have e := kin a o hk
    rw [ha] at e
    cases e
    have sq : SqL K (fun _ => none) a (ns.map V.int) :=
      .inr ⟨_, vs.toArray, _, hk, rfl, rfl, rfl, by rw [List.size_toArray, lenV]; exact hl, by simpa using rv⟩
    exact core (fun _ => none) (fun _ => .inl rfl) sq (fun b u z => nomatch (show (none : Option HO) = some u from z)) (fun b z => absurd rfl z) fun z => absurd rfl z
  | none =>
    refine core (fun b => if b = a then some (.frz { cls := .type "list", data := .seq vs.toArray } (.lst (ns.map V.int))) else none)
      (fun b => ?_) (.inl (.inr ⟨{ cls := .type "list", data := .seq vs.toArray }, if_pos rfl⟩)) (fun b u z => ?_) (fun b z => ?_) fun _ => hk
    · by_cases hb : b = a
      · exact .inr ⟨_, _, if_pos hb⟩
      · exact .inl (if_neg hb)
    · by_cases hb : b = a
      · have w := (if_pos hb).symm.trans z
        cases w
        subst hb
        exact ⟨ha, by rw [List.length_map]; exact hl, vs, _, rv, ha⟩
      · have w := (if_neg hb).symm.trans z
        cases w
    · by_cases hb : b = a
      · exact hb
      · exact absurd (if_neg hb) z
end CG
namespace CG
open PySem PySem.Spec PyProof.Rows L2
/-- a list or an instance -/
noncomputable def Lv : Option HO → Prop
  | some (.lst _) => True
  | some (.ins _ _ _) => True
  | some (.tbl _) => True
  | some (.dT _) => True
  | _ => False
theorem Lv.ne {o : Option HO} (h : Lv o) : o ≠ none := fun e => by
  rw [e] at h
  exact h
/-- the volatile places are tracked -/
noncomputable def Al (B : Addr → Prop) (H : Hp) : Prop := ∀ a, B a → Lv (H a)
/-- all but the volatile places is kept -/
structure Xt (B : Addr → Prop) (H H' : Hp) : Prop where
  kp : ∀ a o, ¬ B a → H a = some o → H' a = some o
  al : Al B H'
section
variable {B : Addr → Prop} {H H1 H2 : Hp} {K : PySem.W.Frag} {a p : Addr} {xs : List V}
theorem Xt.refl (h : Al B H) : Xt B H H := ⟨fun _ _ _ e => e, h⟩
theorem Xt.trans (x : Xt B H H1) (y : Xt B H1 H2) : Xt B H H2 := ⟨fun a o n e => y.kp a o n (x.kp a o n e), y.al⟩
theorem Al.same (h : Al B H) (e : Same H H1) : Al B H1 := fun a b => by
  cases q : H a with
  | none => exact absurd q (h a b).ne
  | some o => have zz := h a b; rw [q] at zz; rw [e a o q]; exact zz
theorem Xt.same (x : Xt B H H1) (e : Same H1 H2) : Xt B H H2 := ⟨fun a o n z => e a o (x.kp a o n z), x.al.same e⟩
theorem Xt.of (h : Al B H) (e : Same H H1) : Xt B H H1 := (Xt.refl h).same e
theorem Al.new (h : Al B H) (n : H p = none) : ¬ B p := fun b => (h p b).ne n
theorem same_new {o : HO} (n : H p = none) : Same H (upd H p o) := fun b z e => by
  rw [upd_ne (ne_of_none e n)]
  exact e
theorem Xt.sqT (x : Xt B H H1) (nb : ¬ B a) (h : SqT K H a xs) : SqT K H1 a xs := by
  rcases h with (h | ⟨o, h⟩) | h
  · exact .inl (.inl (x.kp _ _ nb h))
  · exact .inl (.inr ⟨o, x.kp _ _ nb h⟩)
  · exact .inr h
end
/-- a tuple of the written part -/
noncomputable def KT (K : PySem.W.Frag) (a : Addr) (xs : List V) : Prop :=
  ∃ (o : Obj) (its : Array Value) (n : Nat), K.lookup a = some o ∧ o.cls = .type "tuple" ∧ o.data = .seq its n ∧ its.size ≤ sizeLine ∧ Vals xs its.toList
/-- data that is no object of its own -/
noncomputable def sV : PyData → Option V
  | .none => some .non
  | .bool b => some (.bl b)
  | .int i => some (.int i)
  | .str x => some (.str x)
  | _ => none
noncomputable def sK : PyData → Option Key
  | .int i => some (.inl i)
  | .str x => some (.inr x)
  | _ => none
/-- a dict of such data -/
noncomputable def FlatD : List (PyData × PyData) → List (Key × V) → Prop
  | [], es => es = []
  | (k, d) :: r, es => ∃ y x t, es = (y, x) :: t ∧ sK k = some y ∧ sV d = some x ∧ FlatD r t
mutual
/-- v is the data d -/
noncomputable def Rp (K : PySem.W.Frag) (B : Addr → Prop) (H : Hp) : PyData → V → Prop
  | .none, v => v = .non
  | .bool b, v => v = .bl b
  | .int i, v => v = .int i
  | .str x, v => v = .str x
  | .list ds, v => ∃ a xs, v = .ref a ∧ ¬ B a ∧ H a = some (.lst xs) ∧ RpA K B H ds xs
  | .tuple ds, v => ∃ a xs, v = .ref a ∧ (¬ B a ∨ KT K a xs) ∧ SqT K H a xs ∧ RpA K B H ds xs
  | .dict kvs, v => ∃ a es, v = .ref a ∧ ¬ B a ∧ H a = some (.dK es) ∧ FlatD kvs es
noncomputable def RpA (K : PySem.W.Frag) (B : Addr → Prop) (H : Hp) : List PyData → List V → Prop
  | [], xs => xs = []
  | d :: ds, xs => ∃ x r, xs = x :: r ∧ Rp K B H d x ∧ RpA K B H ds r
end
section
variable {K : PySem.W.Frag} {B : Addr → Prop} {H H1 H2 : Hp} {v : V} {d : PyData} {ds : List PyData} {xs : List V}
theorem rp_non : Rp K B H .none v ↔ v = .non := by simp only [Rp]
theorem rp_bl {b : Bool} : Rp K B H (.bool b) v ↔ v = .bl b := by simp only [Rp]
theorem rp_int {i : Int} : Rp K B H (.int i) v ↔ v = .int i := by simp only [Rp]
theorem rp_str {x : Str} : Rp K B H (.str x) v ↔ v = .str x := by simp only [Rp]
theorem rp_lst : Rp K B H (.list ds) v ↔ ∃ a xs, v = .ref a ∧ ¬ B a ∧ H a = some (.lst xs) ∧ RpA K B H ds xs := by simp only [Rp]
theorem rp_tup : Rp K B H (.tuple ds) v ↔ ∃ a xs, v = .ref a ∧ (¬ B a ∨ KT K a xs) ∧ SqT K H a xs ∧ RpA K B H ds xs := by simp only [Rp]
theorem rp_dct {kvs : List (PyData × PyData)} : Rp K B H (.dict kvs) v ↔ ∃ a es, v = .ref a ∧ ¬ B a ∧ H a = some (.dK es) ∧ FlatD kvs es := by simp only [Rp]
theorem rpa_nil : RpA K B H [] xs ↔ xs = [] := by simp only [RpA]
theorem rpa_cons : RpA K B H (d :: ds) xs ↔ ∃ x r, xs = x :: r ∧ Rp K B H d x ∧ RpA K B H ds r := by simp only [RpA]
theorem RpA.cons (h : Rp K B H d v) (t : RpA K B H ds xs) : RpA K B H (d :: ds) (v :: xs) := rpa_cons.mpr ⟨v, xs, rfl, h, t⟩
theorem RpA.nil : RpA K B H [] [] := rpa_nil.mpr rfl
mutual
theorem Rp.mono (x : Xt B H H1) : ∀ (d : PyData) (v : V), Rp K B H d v → Rp K B H1 d v
  | .none, v, h => rp_non.mpr (rp_non.mp h)
  | .bool b, v, h => rp_bl.mpr (rp_bl.mp h)
  | .int i, v, h => rp_int.mpr (rp_int.mp h)
  | .str s, v, h => rp_str.mpr (rp_str.mp h)
  | .list ds, v, h => by
    obtain ⟨a, xs, e, nb, s, t⟩ := rp_lst.mp h
    exact rp_lst.mpr ⟨a, xs, e, nb, x.kp _ _ nb s, RpA.mono x ds xs t⟩
  | .tuple ds, v, h => by
    obtain ⟨a, xs, e, nb, s, t⟩ := rp_tup.mp h
    exact rp_tup.mpr ⟨a, xs, e, nb, nb.elim (fun nb => x.sqT nb s) .inr, RpA.mono x ds xs t⟩
  | .dict kvs, v, h => by
    obtain ⟨a, es, e, nb, s, t⟩ := rp_dct.mp h
    exact rp_dct.mpr ⟨a, es, e, nb, x.kp _ _ nb s, t⟩
theorem RpA.mono (x : Xt B H H1) : ∀ (ds : List PyData) (xs : List V), RpA K B H ds xs → RpA K B H1 ds xs
  | [], xs, h => rpa_nil.mpr (rpa_nil.mp h)
  | d :: ds, xs, h => by
    obtain ⟨y, r, e, h1, h2⟩ := rpa_cons.mp h
    exact rpa_cons.mpr ⟨y, r, e, Rp.mono x d y h1, RpA.mono x ds r h2⟩
end
theorem Rp.up (h : Rp K B H d v) (x : Xt B H H1) : Rp K B H1 d v := Rp.mono x d v h
theorem RpA.up (h : RpA K B H ds xs) (x : Xt B H H1) : RpA K B H1 ds xs := RpA.mono x ds xs h
theorem RpA.length : ∀ {ds : List PyData} {xs : List V}, RpA K B H ds xs → ds.length = xs.length
  | [], xs, h => by rw [rpa_nil.mp h]; rfl
  | d :: ds, xs, h => by
    obtain ⟨y, r, e, h1, h2⟩ := rpa_cons.mp h
    rw [e, List.length_cons, List.length_cons, RpA.length h2]
theorem RpA.get : ∀ {ds : List PyData} {xs : List V} {i : Nat} {d : PyData}, RpA K B H ds xs → ds[i]? = some d → ∃ x, xs[i]? = some x ∧ Rp K B H d x
  | [], xs, i, d, h, g => by simp at g
  | c :: ds, xs, 0, d, h, g => by
    obtain ⟨y, r, e, h1, h2⟩ := rpa_cons.mp h
    subst e
    simp only [List.getElem?_cons_zero, Option.some.injEq] at g
    subst g
    exact ⟨y, rfl, h1⟩
  | c :: ds, xs, i + 1, d, h, g => by
    obtain ⟨y, r, e, h1, h2⟩ := rpa_cons.mp h
    subst e
    rw [List.getElem?_cons_succ] at g
    obtain ⟨z, g1, g2⟩ := RpA.get h2 g
    exact ⟨z, by rw [List.getElem?_cons_succ]; exact g1, g2⟩
theorem RpA.append : ∀ {ds es : List PyData} {xs ys : List V}, RpA K B H ds xs → RpA K B H es ys → RpA K B H (ds ++ es) (xs ++ ys)
  | [], es, xs, ys, h, k => by rw [rpa_nil.mp h]; exact k
  | c :: ds, es, xs, ys, h, k => by
    obtain ⟨y, r, e, h1, h2⟩ := rpa_cons.mp h
    subst e
    exact RpA.cons h1 (RpA.append h2 k)
theorem RpA.drop : ∀ {ds : List PyData} {xs : List V} (n : Nat), RpA K B H ds xs → RpA K B H (ds.drop n) (xs.drop n)
  | ds, xs, 0, h => h
  | [], xs, n + 1, h => by rw [rpa_nil.mp h]; exact RpA.nil
  | c :: ds, xs, n + 1, h => by
    obtain ⟨y, r, e, h1, h2⟩ := rpa_cons.mp h
    subst e
    exact RpA.drop n h2
theorem RpA.take : ∀ {ds : List PyData} {xs : List V} (n : Nat), RpA K B H ds xs → RpA K B H (ds.take n) (xs.take n)
  | ds, xs, 0, h => RpA.nil
  | [], xs, n + 1, h => by rw [rpa_nil.mp h]; exact RpA.nil
  | c :: ds, xs, n + 1, h => by
    obtain ⟨y, r, e, h1, h2⟩ := rpa_cons.mp h
    subst e
    exact RpA.cons h1 (RpA.take n h2)
theorem RpA.ints : ∀ (ns : List Int), RpA K B H (ns.map PyData.int) (ns.map V.int)
  | [] => RpA.nil
  | n :: ns => RpA.cons (rp_int.mpr rfl) (RpA.ints ns)
theorem RpA.ints_inv : ∀ {ns : List Int} {xs : List V}, RpA K B H (ns.map PyData.int) xs → xs = ns.map V.int
  | [], xs, h => rpa_nil.mp h
  | n :: ns, xs, h => by
    obtain ⟨y, r, e, h1, h2⟩ := rpa_cons.mp h
    rw [e, rp_int.mp h1, RpA.ints_inv h2]
    rfl
end
/-- B' is B with places that H does not know -/
structure Gw (B B' : Addr → Prop) (H : Hp) : Prop where
  up : ∀ a, B a → B' a
  fr : ∀ a, B' a → B a ∨ H a = none
section
variable {K : PySem.W.Frag} {B B' : Addr → Prop} {H H1 H2 : Hp}
theorem sqT_alive {a : Addr} {xs : List V} (h : SqT K H a xs) : KT K a xs ∨ H a ≠ none := by
  rcases h with (h | ⟨o, h⟩) | h
  · exact .inr (by rw [h]; simp)
  · exact .inr (by rw [h]; simp)
  · exact .inl h
mutual
theorem Rp.grow (g : Gw B B' H) : ∀ (d : PyData) (v : V), Rp K B H d v → Rp K B' H d v
  | .none, v, h => rp_non.mpr (rp_non.mp h)
  | .bool b, v, h => rp_bl.mpr (rp_bl.mp h)
  | .int i, v, h => rp_int.mpr (rp_int.mp h)
  | .str s, v, h => rp_str.mpr (rp_str.mp h)
  | .list ds, v, h => by
    obtain ⟨a, xs, e, nb, s, t⟩ := rp_lst.mp h
    refine rp_lst.mpr ⟨a, xs, e, fun z => ?_, s, RpA.grow g ds xs t⟩
    rcases g.fr a z with w | w
    · exact nb w
    · rw [s] at w
      cases w
  | .tuple ds, v, h => by
    obtain ⟨a, xs, e, nb, s, t⟩ := rp_tup.mp h
    refine rp_tup.mpr ⟨a, xs, e, ?_, s, RpA.grow g ds xs t⟩
    rcases nb with nb | nb
    · rcases sqT_alive s with k | k
      · exact .inr k
      · refine .inl fun z => ?_
        rcases g.fr a z with w | w
        · exact nb w
        · exact k w
    · exact .inr nb
  | .dict kvs, v, h => by
    obtain ⟨a, es, e, nb, s, t⟩ := rp_dct.mp h
    refine rp_dct.mpr ⟨a, es, e, fun z => ?_, s, t⟩
    rcases g.fr a z with w | w
    · exact nb w
    · rw [s] at w
      cases w
theorem RpA.grow (g : Gw B B' H) : ∀ (ds : List PyData) (xs : List V), RpA K B H ds xs → RpA K B' H ds xs
  | [], xs, h => rpa_nil.mpr (rpa_nil.mp h)
  | d :: ds, xs, h => by
    obtain ⟨y, r, e, h1, h2⟩ := rpa_cons.mp h
    exact rpa_cons.mpr ⟨y, r, e, Rp.grow g d y h1, RpA.grow g ds r h2⟩
end
mutual
theorem Rp.less (g : ∀ a, B a → B' a) : ∀ (d : PyData) (v : V), Rp K B' H d v → Rp K B H d v
  | .none, v, h => rp_non.mpr (rp_non.mp h)
  | .bool b, v, h => rp_bl.mpr (rp_bl.mp h)
  | .int i, v, h => rp_int.mpr (rp_int.mp h)
  | .str s, v, h => rp_str.mpr (rp_str.mp h)
  | .list ds, v, h => by
    obtain ⟨a, xs, e, nb, s, t⟩ := rp_lst.mp h
    exact rp_lst.mpr ⟨a, xs, e, fun z => nb (g a z), s, RpA.less g ds xs t⟩
  | .tuple ds, v, h => by
    obtain ⟨a, xs, e, nb, s, t⟩ := rp_tup.mp h
    exact rp_tup.mpr ⟨a, xs, e, nb.imp (fun nb z => nb (g a z)) id, s, RpA.less g ds xs t⟩
  | .dict kvs, v, h => by
    obtain ⟨a, es, e, nb, s, t⟩ := rp_dct.mp h
    exact rp_dct.mpr ⟨a, es, e, fun z => nb (g a z), s, t⟩
theorem RpA.less (g : ∀ a, B a → B' a) : ∀ (ds : List PyData) (xs : List V), RpA K B' H ds xs → RpA K B H ds xs
  | [], xs, h => rpa_nil.mpr (rpa_nil.mp h)
  | d :: ds, xs, h => by
    obtain ⟨y, r, e, h1, h2⟩ := rpa_cons.mp h
    exact rpa_cons.mpr ⟨y, r, e, Rp.less g d y h1, RpA.less g ds r h2⟩
end
/-- one more place -/
noncomputable def Bp (B : Addr → Prop) (p : Addr) : Addr → Prop := fun a => B a ∨ a = p
theorem gw_new {p : Addr} (n : H p = none) : Gw B (Bp B p) H := ⟨fun _ h => .inl h, fun a h => h.elim .inl fun e => .inr (by rw [e]; exact n)⟩
theorem bp_up {p : Addr} : ∀ a, B a → Bp B p a := fun _ h => .inl h
theorem Xt.less (x : Xt B' H H1) (g : ∀ a, B a → B' a) (fr : ∀ a, B' a → B a ∨ H a = none) : Xt B H H1 := ⟨fun a o nb e => x.kp a o (fun z => by
  rcases fr a z with w | w
  · exact nb w
  · rw [e] at w
    cases w) e, fun a h => x.al a (g a h)⟩
end
section
variable {X : Cx} {pins : List (Addr × Obj)} {σ : L2.St} {H : Hp} {s : Shared} {B : Addr → Prop}
theorem flat_key {k : PyData} {y : Key} {u : Value} {s : Shared} (h : sK k = some y) (r : (mixKind X.prog X.w).is y u = true) : Reads s.heap u k [] := by
  have r' : keyIs y u = true := r
  rcases keyIs_shape r' with ⟨i, t, rfl, rfl⟩ | ⟨x, t, rfl, rfl⟩
  · cases k <;> simp only [sK, Option.some.injEq, reduceCtorEq, Sum.inl.injEq] at h
    subst h
    exact .int _ t
  · cases k <;> simp only [sK, Option.some.injEq, reduceCtorEq, Sum.inr.injEq] at h
    subst h
    exact .str _ t
theorem flat_val {d : PyData} {x : V} {u : Value} {s : Shared} (h : sV d = some x) (r : RelV x u) : Reads s.heap u d [] := by
  cases d <;> simp only [sV, Option.some.injEq, reduceCtorEq] at h <;> subst h
  · obtain rfl : u = Value.none := r
    exact .none
  · obtain rfl := (show u = Value.bool _ from r)
    exact .bool _
  · obtain ⟨t, rfl⟩ := (show ∃ t, u = Value.int _ t from r)
    exact .int _ t
  · obtain ⟨t, rfl⟩ := (show ∃ t, u = Value.str _ t from r)
    exact .str _ t
theorem flat_reads {s : Shared} : ∀ {kvs : List (PyData × PyData)} {es : List (Key × V)} {vs : List (Key × Value)} {l : List DictEntry}, FlatD kvs es → KV es vs → Pairs (mixKind X.prog X.w) l vs →
    ReadsAll s.heap (l.map (·.key)) (kvs.map (·.1)) [] ∧ ReadsAll s.heap (l.map (·.val)) (kvs.map (·.2)) []
  | [], es, vs, l, hf, hk, hp => by
    obtain rfl : es = [] := hf
    cases hk
    cases hp
    exact ⟨.nil, .nil⟩
  | (k, d) :: r, es, vs, l, hf, hk, hp => by
    obtain ⟨y, x, t, rfl, h1, h2, h3⟩ := hf
    cases hk with
    | cons a b =>
      obtain ⟨a1, a2⟩ := a
      cases hp with
      | cons c1 c2 e =>
        obtain ⟨g1, g2⟩ := flat_reads (s := s) h3 b e
        dsimp only at a1 a2
        rw [← a1] at c1
        rw [← c2] at a2
        exact ⟨.cons (as := []) (bs := []) (flat_key h1 c1) g1, .cons (as := []) (bs := []) (flat_val h2 a2) g2⟩
mutual
noncomputable def noList : PyData → Bool
  | .list _ => false
  | .tuple ds => noListAll ds
  | _ => true
noncomputable def noListAll : List PyData → Bool
  | [] => true
  | d :: ds => noList d && noListAll ds
end
mutual
theorem Rp.reads (I : Inv X pins σ H s) : ∀ (d : PyData) (v : V) (u : Value), Rp X.K B H d v → RelV v u → ∃ as, Reads s.heap u d as ∧ (noList d = true → sysModules ∉ as)
  | .none, v, u, h, r => by
    rw [rp_non.mp h] at r
    obtain rfl : u = Value.none := r
    exact ⟨_, .none, fun _ z => nomatch z⟩
  | .bool b, v, u, h, r => by
    rw [rp_bl.mp h] at r
    obtain rfl : u = Value.bool b := r
    exact ⟨_, .bool b, fun _ z => nomatch z⟩
  | .int i, v, u, h, r => by
    rw [rp_int.mp h] at r
    obtain ⟨t, rfl⟩ : ∃ t, u = Value.int i t := r
    exact ⟨_, .int i t, fun _ z => nomatch z⟩
  | .str x, v, u, h, r => by
    rw [rp_str.mp h] at r
    obtain ⟨t, rfl⟩ : ∃ t, u = Value.str x t := r
    exact ⟨_, .str x t, fun _ z => nomatch z⟩
  | .list ds, v, u, h, r => by
    obtain ⟨a, xs, rfl, _, sq, t⟩ := rp_lst.mp h
    obtain rfl : u = Value.ref a := r
    obtain ⟨its, rv, ⟨o, n, e, hc, _, hd⟩, _⟩ := I.list (SqL.of sq)
    obtain ⟨as, g, _⟩ := RpA.reads I ds xs its t rv
    exact ⟨_, .list e hc hd (by simpa using g), fun z => by simp only [noList] at z; cases z⟩
  | .tuple ds, v, u, h, r => by
    obtain ⟨a, xs, rfl, _, sq, t⟩ := rp_tup.mp h
    obtain rfl : u = Value.ref a := r
    obtain ⟨its, rv, ⟨o, e, hc, n, hd⟩, _⟩ := I.tuple sq
    obtain ⟨as, g, g2⟩ := RpA.reads I ds xs its t rv
    exact ⟨_, .tuple e hc hd (by simpa using g), fun z => g2 (by simpa only [noList] using z)⟩
  | .dict kvs, v, u, h, r => by
    obtain ⟨a, es, rfl, _, sq, t⟩ := rp_dct.mp h
    obtain rfl : u = Value.ref a := r
    obtain ⟨_, sy, vs, kv, o, en, ep, e, ⟨hc, _⟩, hd, _, hp, _⟩ := (show ObjOk X.prog X.w H s.heap a (.dK es) from I.hok a _ sq)
    obtain ⟨g1, g2⟩ := flat_reads (s := s) t kv hp
    refine ⟨_, .dict e hc hd g1 g2, fun _ z => ?_⟩
    have : sysModules = a := by simpa using z
    rw [this] at sy
    simp at sy
theorem RpA.reads (I : Inv X pins σ H s) : ∀ (ds : List PyData) (xs : List V) (us : List Value), RpA X.K B H ds xs → Vals xs us → ∃ as, ReadsAll s.heap us ds as ∧ (noListAll ds = true → sysModules ∉ as)
  | [], xs, us, h, r => by
    rw [rpa_nil.mp h] at r
    cases r
    exact ⟨_, .nil, fun _ z => nomatch z⟩
  | d :: ds, xs, us, h, r => by
    obtain ⟨y, rr, e, h1, h2⟩ := rpa_cons.mp h
    subst e
    cases r with
    | cons a b =>
      obtain ⟨as, g, g2⟩ := Rp.reads I d _ _ h1 a
      obtain ⟨bs, k, k2⟩ := RpA.reads I ds _ _ h2 b
      refine ⟨_, .cons g k, fun z => ?_⟩
      simp only [noListAll, Bool.and_eq_true] at z
      exact fun w => (List.mem_append.mp w).elim (g2 z.1) (k2 z.2)
end
end
/-- data whose text is known to be short: nested below n, of at most m signs -/
structure Sm (n m : Nat) (d : PyData) : Prop where
  sh : d.showable = true
  nd : d.hasDict = false
  dp : d.depth ≤ n
  ln : d.shown.length ≤ m
theorem Sm.mono {n m n' m' : Nat} {d : PyData} (h : Sm n m d) (hn : n ≤ n') (hm : m ≤ m') : Sm n' m' d :=
  ⟨h.sh, h.nd, Nat.le_trans h.dp hn, Nat.le_trans h.ln hm⟩
theorem sm_int {i : Int} (h : i.natAbs < 2 ^ 200) : Sm 0 202 (.int i) := by
  have hl : i.natAbs.log2 < 201 := by
    by_cases z : i.natAbs = 0
    · rw [z]; decide
    · have := (Nat.log2_lt z).mpr h
      omega
  refine ⟨?_, by simp only [PyData.hasDict], by simp only [PyData.depth]; exact Nat.le_refl _, ?_⟩
  · simp only [PyData.showable, decide_eq_true_eq]
    omega
  · rw [PyData.shown_int]
    have := int_text_length_le (a := i) (k := 201) (by decide) hl
    show (Str.ofString (toString i)).length ≤ 202
    rw [PySem.ofString_length]
    exact this
theorem sm_all {n m : Nat} : ∀ {ds : List PyData}, (∀ d ∈ ds, Sm n m d) →
    PyData.showableAll ds = true ∧ PyData.hasDictAll ds = false ∧ PyData.depthAll ds ≤ n ∧ ((PyData.shownAll ds).map (·.length)).sum ≤ ds.length * m
  | [], _ => by simp [PyData.showableAll, PyData.hasDictAll, PyData.depthAll, PyData.shownAll]
  | d :: ds, h => by
    obtain ⟨h1, h2, h3, h4⟩ := sm_all (ds := ds) fun x hx => h x (List.mem_cons_of_mem _ hx)
    have k := h d List.mem_cons_self
    refine ⟨?_, ?_, ?_, ?_⟩
    · simp only [PyData.showableAll, k.sh, h1, Bool.and_true]
    · simp only [PyData.hasDictAll, k.nd, h2, Bool.or_false]
    · simp only [PyData.depthAll]
      exact Nat.max_le.mpr ⟨k.dp, h3⟩
    · simp only [PyData.shownAll, List.map_cons, List.sum_cons, List.length_cons, Nat.succ_mul]
      have := k.ln
      omega
theorem sm_tup {n m : Nat} {ds : List PyData} (h : ∀ d ∈ ds, Sm n m d) : Sm (n + 1) (ds.length * m + 2 * ds.length + 3) (.tuple ds) := by
  obtain ⟨h1, h2, h3, h4⟩ := sm_all h
  refine ⟨by simpa only [PyData.showable] using h1, by simpa only [PyData.hasDict] using h2, by simp only [PyData.depth]; omega, ?_⟩
  have := tupleText_len_le (PyData.shownAll ds)
  simp only [PyData.shown]
  rw [PyData.shownAll_length] at this
  omega
theorem sm_lst {n m : Nat} {ds : List PyData} (h : ∀ d ∈ ds, Sm n m d) : Sm (n + 1) (ds.length * m + 2 * ds.length + 3) (.list ds) := by
  obtain ⟨h1, h2, h3, h4⟩ := sm_all h
  refine ⟨by simpa only [PyData.showable] using h1, by simpa only [PyData.hasDict] using h2, by simp only [PyData.depth]; omega, ?_⟩
  have := listText_len_le (PyData.shownAll ds)
  simp only [PyData.shown]
  rw [PyData.shownAll_length] at this
  omega
/-- small enough for repr -/
noncomputable def Shw (d : PyData) : Prop := Sm 60 1000000 d
/-- the same for data that may hold dicts and holds no list -/
structure SmT (n m : Nat) (d : PyData) : Prop where
  sh : d.showable = true
  nl : noList d = true
  dp : d.depth ≤ n
  ln : d.shown.length ≤ m
theorem SmT.mono {n m n' m' : Nat} {d : PyData} (h : SmT n m d) (hn : n ≤ n') (hm : m ≤ m') : SmT n' m' d :=
  ⟨h.sh, h.nl, Nat.le_trans h.dp hn, Nat.le_trans h.ln hm⟩
noncomputable def Shx (d : PyData) : Prop := Shw d ∨ SmT 60 1000000 d
noncomputable def rRepr (K : PySem.W.Frag) : List V → Hp → VK → Prop := fun xs H Q => ∃ B v d, xs = [v] ∧ Rp K B H d v ∧ Shx d ∧ Q (.str d.shown) H
theorem call_reprD {X : Cx} (hg : X.A.guards = some []) (hu : X.A.units + 64 < cLine) : CallR X (.builtin "repr") (rRepr X.K) := by
  intro pins s σ H xs us Q I r h
  obtain ⟨B, v, d, rfl, hd, hs, q⟩ := h
  obtain ⟨u, rfl, t⟩ := vals1 r
  obtain ⟨as, rd, rs⟩ := Rp.reads I d v u hd t
  have ln : d.shown.length ≤ 1000000 := hs.elim (·.ln) (·.ln)
  have sh : d.showable = true := hs.elim (·.sh) (·.sh)
  have dp : d.depth ≤ 60 := hs.elim (·.dp) (·.dp)
  have sm : d.hasDict = true → sysModules ∉ as := hs.elim (fun h => PyData.noDict_hsm h.nd) fun h _ => rs h.nl
  have sz : d.shown.length ≤ sizeLine := Nat.le_trans ln (by decide)
  have fin : ∀ (h' : Heap) (u : Tok) (tk : Nat), (∀ b o, s.heap.get? b = some o → h'.get? b = some o) →
      EP X pins σ Q (.str d.shown u) { s with heap := h', toks := tk } := fun h' u tk hk =>
    ⟨.str d.shown, H, I.un (Un.kept hk) (I.hok.kept hk), ⟨u, rfl⟩, q⟩
  cases rd with
  | none =>
    have := fin s.heap s.toks (s.toks + 1) fun _ _ z => z
    rw [PyData.shown_none] at this
    exact PySem.P.repr_of_none this
  | bool b =>
    have := fin s.heap s.toks (s.toks + 1) fun _ _ z => z
    rw [PyData.shown_bool] at this
    refine PySem.P.repr_of_bool ?_
    cases b <;> exact this
  | int i t =>
    have := fin s.heap s.toks (s.toks + 1) fun _ _ z => z
    rw [PyData.shown_int] at this
    simp only [PyData.showable, decide_eq_true_eq] at sh
    exact PySem.P.repr_of_int sh this
  | str x t =>
    have := fin s.heap s.toks (s.toks + 1) fun _ _ z => z
    rw [PyData.shown_str] at this
    exact PySem.P.repr_of_str this (by rw [← PyData.shown_str]; exact sz)
  | list a1 a2 a3 a4 => exact repr_of_reads' (.list a1 a2 a3 a4) sh sm hg (by omega) (fun _ _ z => z) (fun h' u tk hk => fin h' u tk hk) sz
  | tuple a1 a2 a3 a4 => exact repr_of_reads' (.tuple a1 a2 a3 a4) sh sm hg (by omega) (fun _ _ z => z) (fun h' u tk hk => fin h' u tk hk) sz
  | dict a1 a2 a3 a4 a5 => exact repr_of_reads' (.dict a1 a2 a3 a4 a5) sh sm hg (by omega) (fun _ _ z => z) (fun h' u tk hk => fin h' u tk hk) sz
end CG
namespace CG
open PySem PySem.Spec PyProof.Rows L2
/-- the reading te gives the data d and changes nothing that stands -/
noncomputable def Dn (K : PySem.W.Frag) (B : Addr → Prop) (te : TE) (σ : L2.St) (H : Hp) (d : PyData) : Prop :=
  ∀ H1, Xt B H H1 → ∀ Q : VK, (∀ v H2, Same H1 H2 → Rp K B H2 d v → Q v H2) → te σ H1 Q
/-- operations on data -/
noncomputable def RvD (K : PySem.W.Frag) (B : Addr → Prop) (r : R2) (da db d : PyData) : Prop :=
  ∀ H1 x y, Al B H1 → Rp K B H1 da x → Rp K B H1 db y → ∀ Q : VK, (∀ v H2, Same H1 H2 → Rp K B H2 d v → Q v H2) → r x y H1 Q
noncomputable def RuD (K : PySem.W.Frag) (B : Addr → Prop) (r : V → Hp → VK → Prop) (da d : PyData) : Prop :=
  ∀ H1 x, Al B H1 → Rp K B H1 da x → ∀ Q : VK, (∀ v H2, Same H1 H2 → Rp K B H2 d v → Q v H2) → r x H1 Q
noncomputable def RcD (K : PySem.W.Frag) (B : Addr → Prop) (r : List V → Hp → VK → Prop) (ds : List PyData) (d : PyData) : Prop :=
  ∀ H1 xs, Al B H1 → RpA K B H1 ds xs → ∀ Q : VK, (∀ v H2, Same H1 H2 → Rp K B H2 d v → Q v H2) → r xs H1 Q
section
variable {K : PySem.W.Frag} {B : Addr → Prop} {σ : L2.St} {H H1 H2 : Hp} {ta tb te : TE} {tx : TA} {tt tu : TT} {v : V} {d da db dc : PyData}
  {ds es : List PyData} {r : R2} {b c : Bool}
theorem Dn.up (h : Dn K B te σ H d) (x : Xt B H H1) : Dn K B te σ H1 d := fun H2 y Q q => h H2 (x.trans y) Q q
theorem rd_I0 {g : Int → Int → Int} {i j : Int} : RvD K B (rI0 fun i j => .int (g i j)) (.int i) (.int j) (.int (g i j)) := fun H1 x y _ hx hy Q q =>
  ⟨i, j, rp_int.mp hx, rp_int.mp hy, q _ H1 (Same.refl H1) (rp_int.mpr rfl)⟩
theorem rd_B0 {g : Int → Int → Bool} {i j : Int} : RvD K B (rI0 fun i j => .bl (g i j)) (.int i) (.int j) (.bool (g i j)) := fun H1 x y _ hx hy Q q =>
  ⟨i, j, rp_int.mp hx, rp_int.mp hy, q _ H1 (Same.refl H1) (rp_bl.mpr rfl)⟩
theorem rd_I {C : Int → Int → Prop} {g : Int → Int → Int} {i j : Int} (hc : C i j) : RvD K B (rI C fun i j => .int (g i j)) (.int i) (.int j) (.int (g i j)) :=
  fun H1 x y _ hx hy Q q => ⟨i, j, rp_int.mp hx, rp_int.mp hy, hc, q _ H1 (Same.refl H1) (rp_int.mpr rfl)⟩
theorem ru_neg {i : Int} : RuD K B (rU fun i => .int (-i)) (.int i) (.int (-i)) := fun H1 x _ hx Q q => ⟨i, rp_int.mp hx, q _ H1 (Same.refl H1) (rp_int.mpr rfl)⟩
theorem rd_eqI {i j : Int} : RvD K B rEq (.int i) (.int j) (.bool (decide (i = j))) := fun H1 x y _ hx hy Q q => by
  rw [rp_int.mp hx, rp_int.mp hy]
  refine ⟨rfl, ?_⟩
  have e : decide (V.int i = V.int j) = decide (i = j) := by simp
  rw [e]
  exact q _ H1 (Same.refl H1) (rp_bl.mpr rfl)
theorem rd_neI {i j : Int} : RvD K B rNe (.int i) (.int j) (.bool (!decide (i = j))) := fun H1 x y _ hx hy Q q => by
  rw [rp_int.mp hx, rp_int.mp hy]
  refine ⟨rfl, ?_⟩
  have e : decide (V.int i = V.int j) = decide (i = j) := by simp
  rw [e]
  exact q _ H1 (Same.refl H1) (rp_bl.mpr rfl)
theorem rd_eqS {i j : Str} : RvD K B rEq (.str i) (.str j) (.bool (decide (i = j))) := fun H1 x y _ hx hy Q q => by
  rw [rp_str.mp hx, rp_str.mp hy]
  refine ⟨rfl, ?_⟩
  have e : decide (V.str i = V.str j) = decide (i = j) := by simp
  rw [e]
  exact q _ H1 (Same.refl H1) (rp_bl.mpr rfl)
theorem rd_neS {i j : Str} : RvD K B rNe (.str i) (.str j) (.bool (!decide (i = j))) := fun H1 x y _ hx hy Q q => by
  rw [rp_str.mp hx, rp_str.mp hy]
  refine ⟨rfl, ?_⟩
  have e : decide (V.str i = V.str j) = decide (i = j) := by simp
  rw [e]
  exact q _ H1 (Same.refl H1) (rp_bl.mpr rfl)
theorem at_data {i : Int} {xs : List V} (h : atI ds i = some d) (r : RpA K B H ds xs) : ∃ x, atI xs i = some x ∧ Rp K B H d x := by
  unfold atI at h ⊢
  rw [← r.length]
  cases e : ixN ds.length i with
  | none => rw [e] at h; cases h
  | some j =>
    rw [e] at h
    exact r.get h
theorem rd_ixT {i : Int} (h : atI ds i = some d) : RvD K B (rIx K) (.tuple ds) (.int i) d := fun H1 x y _ hx hy Q q => by
  obtain ⟨a, xs, rfl, _, s, t⟩ := rp_tup.mp hx
  obtain ⟨z, g, rz⟩ := at_data h t
  exact .inr (.inl ⟨a, xs, i, z, rfl, rp_int.mp hy, s, g, q z H1 (Same.refl H1) rz⟩)
theorem rd_ixL {i : Int} (h : atI ds i = some d) : RvD K B (rIx K) (.list ds) (.int i) d := fun H1 x y _ hx hy Q q => by
  obtain ⟨a, xs, rfl, _, s, t⟩ := rp_lst.mp hx
  obtain ⟨z, g, rz⟩ := at_data h t
  exact .inl ⟨a, xs, i, z, rfl, rp_int.mp hy, SqL.of s, g, q z H1 (Same.refl H1) rz⟩
theorem at_ints {ns : List Int} {i n : Int} (h : atI ns i = some n) : atI (ns.map PyData.int) i = some (.int n) := by
  unfold atI at h ⊢
  rw [List.length_map]
  cases e : ixN ns.length i with
  | none => rw [e] at h; cases h
  | some j =>
    rw [e] at h
    show (ns.map PyData.int)[j]? = some (.int n)
    rw [List.getElem?_map, show ns[j]? = some n from h]
    rfl
end
noncomputable def rAddU (K : PySem.W.Frag) : R2 := fun x y H Q => (rI0 (fun i j => .int (i + j))) x y H Q ∨ (rCatA K x y H Q ∨ rCat x y H Q)
theorem op_addU {X : Cx} : OpR X (binaryOp .Add) (rAddU X.K) := op_add.or (op_catA.or op_cat)
noncomputable def cutD (ds : List PyData) (lo hi : Option Int) : List PyData :=
  (ds.drop (HT.sIx ds.length 0 lo)).take (HT.sIx ds.length ds.length hi - HT.sIx ds.length 0 lo)
noncomputable def rSlU (K : PySem.W.Frag) : V → Option Int → Option Int → Hp → VK → Prop := fun x lo hi H Q => rSlL K x lo hi H Q ∨ rSlA K x lo hi H Q
theorem sl_U {X : Cx} : SlR X (rSlU X.K) := sl_list.or sl_tupA
section
variable {K : PySem.W.Frag} {B : Addr → Prop} {σ : L2.St} {H H1 H2 : Hp} {ta tb te : TE} {tx : TA} {tt tu : TT} {v : V} {d da db dc : PyData}
  {ds es : List PyData} {r : R2} {b c : Bool} {lo hi : Option Int} {tl th : TO}
theorem rd_add {i j : Int} : RvD K B (rAddU K) (.int i) (.int j) (.int (i + j)) := fun H1 x y al hx hy Q q => .inl (rd_I0 (g := fun i j => i + j) H1 x y al hx hy Q q)
theorem rd_catT (z : ds.length + es.length ≤ 100000) : RvD K B (rAddU K) (.tuple ds) (.tuple es) (.tuple (ds ++ es)) := fun H1 x y al hx hy Q q => by
  obtain ⟨a, xs, rfl, na, s, t⟩ := rp_tup.mp hx
  obtain ⟨b, ys, rfl, nb, s2, t2⟩ := rp_tup.mp hy
  refine .inr (.inl ⟨a, b, xs, ys, rfl, rfl, s, s2, ?_, fun e => ?_, fun _ e => ?_, fun _ _ p np => ?_⟩)
  · rw [← t.length, ← t2.length]
    exact Nat.le_trans z (by decide)
  · subst e
    obtain rfl : ds = [] := List.length_eq_zero_iff.mp t.length
    exact q _ H1 (Same.refl H1) hy
  · subst e
    obtain rfl : es = [] := List.length_eq_zero_iff.mp t2.length
    rw [List.append_nil] at q
    exact q _ H1 (Same.refl H1) hx
  · refine q (.ref p) _ (same_new np) (rp_tup.mpr ⟨p, _, rfl, .inl (al.new np), SqT.of upd_same, (t.append t2).up (Xt.of al (same_new np))⟩)
theorem rd_catL (z : ds.length + es.length ≤ 100000) : RvD K B (rAddU K) (.list ds) (.list es) (.list (ds ++ es)) := fun H1 x y al hx hy Q q => by
  obtain ⟨a, xs, rfl, na, s, t⟩ := rp_lst.mp hx
  obtain ⟨b, ys, rfl, nb, s2, t2⟩ := rp_lst.mp hy
  refine .inr (.inr ⟨a, b, xs, ys, rfl, rfl, s, s2, ?_, fun p np => ?_⟩)
  · rw [← t.length, ← t2.length]
    exact Nat.le_trans z (by decide)
  · refine q (.ref p) _ (same_new np) (rp_lst.mpr ⟨p, _, rfl, al.new np, upd_same, (t.append t2).up (Xt.of al (same_new np))⟩)
theorem RpA.cut {xs : List V} (h : RpA K B H ds xs) : RpA K B H (cutD ds lo hi) (cutV xs lo hi) := by
  unfold cutD cutV
  rw [h.length]
  exact RpA.take _ (RpA.drop _ h)
theorem cutD_full (e1 : HT.sIx ds.length 0 lo = 0) (e2 : HT.sIx ds.length ds.length hi = ds.length) : cutD ds lo hi = ds := by
  unfold cutD
  rw [e1, e2, List.drop_zero, Nat.sub_zero, List.take_length]
noncomputable def rLenU (K : PySem.W.Frag) : List V → Hp → VK → Prop := fun xs H Q => ∃ p ys, xs = [.ref p] ∧ (SqL K H p ys ∨ SqT K H p ys) ∧ Q (.int ys.length) H
theorem call_lenU {X : Cx} : CallR X (.builtin "len") (rLenU X.K) := call_len_seq
theorem rc_lenT : RcD K B (rLenU K) [.tuple ds] (.int ds.length) := fun H1 xs al h Q q => by
  obtain ⟨y, r, rfl, h1, h2⟩ := rpa_cons.mp h
  obtain rfl := rpa_nil.mp h2
  obtain ⟨a, xs, rfl, na, s, t⟩ := rp_tup.mp h1
  exact ⟨a, xs, rfl, .inr s, q _ H1 (Same.refl H1) (rp_int.mpr (by rw [t.length]))⟩
theorem rc_lenL : RcD K B (rLenU K) [.list ds] (.int ds.length) := fun H1 xs al h Q q => by
  obtain ⟨y, r, rfl, h1, h2⟩ := rpa_cons.mp h
  obtain rfl := rpa_nil.mp h2
  obtain ⟨a, xs, rfl, na, s, t⟩ := rp_lst.mp h1
  exact ⟨a, xs, rfl, .inl (SqL.of s), q _ H1 (Same.refl H1) (rp_int.mpr (by rw [t.length]))⟩
theorem rc_reprX (h : Shx d) : RcD K B (rRepr K) [d] (.str d.shown) := fun H1 xs al k Q q => by
  obtain ⟨y, r, rfl, h1, h2⟩ := rpa_cons.mp k
  obtain rfl := rpa_nil.mp h2
  exact ⟨B, y, d, rfl, h1, h, q _ H1 (Same.refl H1) (rp_str.mpr rfl)⟩
noncomputable def rMinU : List V → Hp → VK → Prop := fun xs H Q => ∃ i j, xs = [.int i, .int j] ∧ Q (.int (if j < i then j else i)) H
noncomputable def rMaxU : List V → Hp → VK → Prop := fun xs H Q => ∃ i j, xs = [.int i, .int j] ∧ Q (.int (if j > i then j else i)) H
theorem call_minU {X : Cx} (hc : X.calm = true) : CallR X (.builtin "min") rMinU := call_min2 hc
theorem call_maxU {X : Cx} (hc : X.calm = true) : CallR X (.builtin "max") rMaxU := call_max2 hc
theorem two_ints {i j : Int} {xs : List V} (h : RpA K B H [.int i, .int j] xs) : xs = [.int i, .int j] := by
  obtain ⟨y, r, rfl, h1, h2⟩ := rpa_cons.mp h
  obtain ⟨z, r, rfl, h3, h4⟩ := rpa_cons.mp h2
  rw [rpa_nil.mp h4, rp_int.mp h1, rp_int.mp h3]
theorem rc_min {i j : Int} : RcD K B rMinU [.int i, .int j] (.int (if j < i then j else i)) := fun H1 xs al h Q q =>
  ⟨i, j, two_ints h, q _ H1 (Same.refl H1) (rp_int.mpr rfl)⟩
theorem rc_max {i j : Int} : RcD K B rMaxU [.int i, .int j] (.int (if j > i then j else i)) := fun H1 xs al h Q q =>
  ⟨i, j, two_ints h, q _ H1 (Same.refl H1) (rp_int.mpr rfl)⟩
variable {D : Ends} {t u : TS} {i n : Nat}
end
end CG
namespace CG
open PySem PySem.Spec PyProof.Rows L2
noncomputable def Bk (D C : Addr) : Addr → Prop := fun a => a = D ∨ a = C
/-- a deck at D, its cells at C, t draws done; both are among the places B that data avoid -/
structure Dk (B : Addr → Prop) (H : Hp) (D C : Addr) (t : Int) : Prop where
  bD : B D
  bC : B C
  al : Al B H
  ne : D ≠ C
  nn : 0 ≤ t
  ex : ∃ cs : List Int, H D = some (.lst [.ref C, .int t]) ∧ H C = some (.lst (cs.map V.int)) ∧ cs.length ≤ 63 ∧ ∀ c ∈ cs, 0 ≤ c
section
variable {K : PySem.W.Frag} {B : Addr → Prop} {D C : Addr} {H H1 H2 : Hp} {t t' n m : Int} {σ : L2.St} {te ta tb : TE} {tx : TA} {tt tu : TT} {d : PyData} {ds : List PyData}
  {Φ Ψ Θ : PyData → Prop} {Φs Ψs : List PyData → Prop} {r : R2} {v : V}
theorem Dk.alk (k : Dk B H D C t) : Al (Bk D C) H := fun a h => by
  rcases h with rfl | rfl
  · exact k.al a k.bD
  · exact k.al a k.bC
theorem Dk.same (k : Dk B H D C t) (e : Same H H1) : Dk B H1 D C t := by
  obtain ⟨bD, bC, al, ne, nn, cs, h1, h2, h3⟩ := k
  exact ⟨bD, bC, al.same e, ne, nn, cs, e _ _ h1, e _ _ h2, h3⟩
theorem Dk.xt (k : Dk B H D C t) (e : Same H H1) : Xt (Bk D C) H H1 := Xt.of k.alk e
/-- what is kept but for the deck is kept but for B -/
theorem Dk.wd (k : Dk B H D C t) (x : Xt (Bk D C) H H1) : Xt B H H1 := ⟨fun a o nb e => x.kp a o (fun z => nb (z.elim (fun w => w ▸ k.bD) fun w => w ▸ k.bC)) e, fun a h => by
  by_cases z : Bk D C a
  · exact x.al a z
  · cases q : H a with
    | none => exact absurd q (k.al a h).ne
    | some o => have zz := k.al a h; rw [q] at zz; rw [x.kp a o z q]; exact zz⟩
theorem Dk.free {p : Addr} (k : Dk B H D C t) (x : Xt B H1 H) (n : H p = none) : H1 p = none := by
  cases q : H1 p with
  | none => rfl
  | some o =>
    have := x.kp p o (k.al.new n) q
    rw [n] at this
    cases this
theorem Dk.less {B' : Addr → Prop} (k : Dk B' H D C t) (g : ∀ a, B a → B' a) (bD : B D) (bC : B C) : Dk B H D C t :=
  ⟨bD, bC, fun a z => k.al a (g a z), k.ne, k.nn, k.ex⟩
noncomputable def Lim : Int := 1000000000000
/-- te gives some data of Φ, with at most n draws -/
noncomputable def Ef (K : PySem.W.Frag) (B : Addr → Prop) (D C : Addr) (n : Int) (te : TE) (σ : L2.St) (H : Hp) (Φ : PyData → Prop) : Prop :=
  ∀ H1 t, Xt B H H1 → Dk B H1 D C t → t + n ≤ Lim → ∀ Q : VK,
    (∀ v d H2 t', Xt (Bk D C) H1 H2 → Dk B H2 D C t' → t' ≤ t + n → Φ d → Rp K B H2 d v → Q v H2) → te σ H1 Q
theorem Ef.up (h : Ef K B D C n te σ H Φ) (x : Xt B H H1) : Ef K B D C n te σ H1 Φ := fun H2 t y k hl Q q => h H2 t (x.trans y) k hl Q q
end
/-- where a def of the text stands -/
structure Has (K : PySem.W.Frag) (mg : Str → Option Value) (x : Str) (st : Stmt) (ps : List Str) (f : Addr) (fd : FuncData) : Prop where
  F : Fun K x x st f fd
  m : mg x = some (.ref f)
  b : Binds K fd ps []
noncomputable def spDeck (K : PySem.W.Frag) : Sp := fun vs H Q _ => ∃ (a : Addr) (ns : List Int), vs = [.ref a] ∧ SqL K H a (ns.map V.int) ∧
  ∀ D C H', Same H H' → H D = none → H C = none → Dk (fun a => a = D ∨ a = C) H' D C 0 → Q (.ref D) H'
end CG
namespace CG
open PySem PySem.Spec PyProof.Rows L2
/-- the built-in names are still the built-in ones -/
structure Bz (mg : Str → Option Value) : Prop where
  z_len : mg "len" = none
  z_abs : mg "abs" = none
  z_range : mg "range" = none
  z_repr : mg "repr" = none
  z_min : mg "min" = none
  z_max : mg "max" = none
  z_int : mg "int" = none
  z_tuple : mg "tuple" = none
  z_list : mg "list" = none
  z_bool : mg "bool" = none
  z_isinstance : mg "isinstance" = none
  z_enumerate : mg "enumerate" = none
end CG
namespace CG
open PySem PySem.Spec PyProof.Rows L2
structure Ctr where
  s : Int
  t : Int
  g : Int
  e : Int
noncomputable def Ctr.d (c : Ctr) : PyData := .tuple [.int c.s, .int c.t, .int c.g, .int c.e]
structure Ctr.Ok (n : Int) (c : Ctr) : Prop where
  s0 : 0 ≤ c.s
  s1 : c.s < n
  t0 : 0 ≤ c.t
  t1 : c.t < n
  ne : c.s ≠ c.t
  g0 : 1 ≤ c.g
  g1 : c.g ≤ 5
  e0 : 1 ≤ c.e
  e1 : c.e ≤ 5
noncomputable def rowsD (cs : List Ctr) : PyData := .tuple (cs.map Ctr.d)
noncomputable def boardD (n : Int) (cs : List Ctr) : PyData := .tuple [.int n, rowsD cs]
noncomputable def IsBoard (most many : Int) (d : PyData) : Prop := ∃ (n : Int) (cs : List Ctr), d = boardD n cs ∧ 1 ≤ n ∧ n ≤ most ∧ (cs.length : Int) ≤ many ∧ ∀ c ∈ cs, c.Ok n
theorem step_ne {s p n : Int} (h1 : 0 ≤ s) (h2 : s < n) (h3 : 1 ≤ p) (h4 : p < n) (h5 : n ≤ 4) : s ≠ (s + p) % n := by
  have c : n = 2 ∨ n = 3 ∨ n = 4 := by omega
  rcases c with rfl | rfl | rfl <;> omega
theorem sm_ctr {n : Int} {c : Ctr} (h : c.Ok n) (hn : n ≤ 100) : Sm 1 900 c.d := by
  refine (sm_tup (n := 0) (m := 202) (ds := [.int c.s, .int c.t, .int c.g, .int c.e]) fun d hd => ?_).mono (by decide) (by show 4 * 202 + 2 * 4 + 3 ≤ 900; decide)
  obtain ⟨h1, h2, h3, h4, _, h5, h6, h7, h8⟩ := h
  simp only [List.mem_cons, List.not_mem_nil, or_false] at hd
  rcases hd with rfl | rfl | rfl | rfl <;> exact sm_int (by omega)
theorem sm_rows {n : Int} {cs : List Ctr} (h : ∀ c ∈ cs, c.Ok n) (hn : n ≤ 100) (hl : cs.length ≤ 100) : Sm 2 100000 (rowsD cs) := by
  refine (sm_tup (n := 1) (m := 900) (ds := cs.map Ctr.d) fun d hd => ?_).mono (by decide) (by rw [List.length_map]; omega)
  obtain ⟨c, hc, rfl⟩ := List.mem_map.mp hd
  exact sm_ctr (h c hc) hn
theorem sm_board {n : Int} {cs : List Ctr} (h : ∀ c ∈ cs, c.Ok n) (hn0 : 0 ≤ n) (hn : n ≤ 100) (hl : cs.length ≤ 100) : Sm 3 200020 (boardD n cs) := by
  refine (sm_tup (n := 2) (m := 100000) (ds := [.int n, rowsD cs]) fun d hd => ?_).mono (by decide) (by show 2 * 100000 + 2 * 2 + 3 ≤ 200020; decide)
  simp only [List.mem_cons, List.not_mem_nil, or_false] at hd
  rcases hd with rfl | rfl
  · exact (sm_int (by omega)).mono (by decide) (by decide)
  · exact sm_rows h hn hl
theorem boot_intU : bootBuiltins "int" = some (.type "int") := by decide +kernel
theorem boot_tupleU : bootBuiltins "tuple" = some (.type "tuple") := by decide +kernel
theorem boot_listU : bootBuiltins "list" = some (.type "list") := by decide +kernel
noncomputable def rIntU : List V → Hp → VK → Prop := fun xs H Q => (∃ i, xs = [.int i] ∧ Q (.int i) H) ∨ ∃ k, xs = [.bl k] ∧ Q (.int (if k then 1 else 0)) H
theorem call_intU {X : Cx} : CallR X (.type "int") rIntU := call_int1
noncomputable def rTupU (K : PySem.W.Frag) : List V → Hp → VK → Prop := fun xs H Q => ∃ p ys, xs = [.ref p] ∧ ((SqL K H p ys ∧ ∀ l, H l = none → Q (.ref l) (upd H l (.tup ys))) ∨ (SqT K H p ys ∧ Q (.ref p) H))
theorem call_tupU {X : Cx} : CallR X (.type "tuple") (rTupU X.K) := call_tuple_of
noncomputable def rLstU (K : PySem.W.Frag) : List V → Hp → VK → Prop := fun xs H Q => ∃ p ys, xs = [.ref p] ∧ (SqL K H p ys ∨ SqT K H p ys) ∧ ∀ l, H l = none → Q (.ref l) (upd H l (.lst ys))
section
variable {K : PySem.W.Frag} {B : Addr → Prop} {D C L : Addr} {H H1 H2 : Hp} {t : Int} {σ : L2.St} {ds : List PyData} {d : PyData}
theorem rc_intB {b : Bool} : RcD K B rIntU [.bool b] (.int (if b then 1 else 0)) := fun H1 xs al h Q q => by
  obtain ⟨y, r, rfl, h1, h2⟩ := rpa_cons.mp h
  obtain rfl := rpa_nil.mp h2
  rw [rp_bl.mp h1]
  exact .inr ⟨b, rfl, q _ H1 (Same.refl H1) (rp_int.mpr rfl)⟩
theorem rc_tupL : RcD K B (rTupU K) [.list ds] (.tuple ds) := fun H1 xs al h Q q => by
  obtain ⟨y, r, rfl, h1, h2⟩ := rpa_cons.mp h
  obtain rfl := rpa_nil.mp h2
  obtain ⟨a, ys, rfl, na, s, t⟩ := rp_lst.mp h1
  refine ⟨a, ys, rfl, .inl ⟨SqL.of s, fun l nl => ?_⟩⟩
  exact q _ _ (same_new nl) (rp_tup.mpr ⟨l, ys, rfl, .inl (al.new nl), SqT.of upd_same, t.up (Xt.of al (same_new nl))⟩)
theorem rc_tupT : RcD K B (rTupU K) [.tuple ds] (.tuple ds) := fun H1 xs al h Q q => by
  obtain ⟨y, r, rfl, h1, h2⟩ := rpa_cons.mp h
  obtain rfl := rpa_nil.mp h2
  obtain ⟨a, ys, rfl, na, s, t⟩ := rp_tup.mp h1
  exact ⟨a, ys, rfl, .inr ⟨s, q _ H1 (Same.refl H1) h1⟩⟩
theorem Al.put {o : List V} (al : Al (Bp B L) H) : Al (Bp B L) (upd H L (.lst o)) := fun a h => by
  by_cases z : a = L
  · rw [z, upd_same]; first | exact trivial | simp
  · rw [upd_ne z]
    exact al a h
theorem xt_put {o : List V} (al : Al (Bp B L) H) : Xt (Bp B L) H (upd H L (.lst o)) := ⟨fun a o nb e => by
  rw [upd_ne (fun z => nb (.inr z))]
  exact e, al.put⟩
theorem Dk.put {o : List V} (k : Dk (Bp B L) H D C t) (nD : D ≠ L) (nC : C ≠ L) : Dk (Bp B L) (upd H L (.lst o)) D C t := by
  obtain ⟨bD, bC, al, ne, nn, cs, h1, h2, h3⟩ := k
  exact ⟨bD, bC, al.put, ne, nn, cs, by rw [upd_ne nD]; exact h1, by rw [upd_ne nC]; exact h2, h3⟩
variable {te : TE} {tx : TA} {m : Int} {g : TG} {tb : TS} {Dd : Ends} {Φs : List PyData → Prop}
end
end CG
namespace CG
open PySem PySem.Spec PyProof.Rows L2
/-- f(e, ..) where what is raised is wished for at the slots -/
theorem pe_callSG {X : Cx} {cx : CXT} {k : Nat} {f : Addr} {fd : FuncData} {ps : List Str} {sp : Sp} {E : L2.St → XK} {x : Str} {p pos : Pos} {e : Expr} {es : List Expr} {t : TA}
    (G : FnG X.prog X.w X.K X.mg X.base cx k f fd ps sp) (hgd : X.A.guards = some []) (hr : Room k X.A) (hg : Gl X x) (hm : X.mg x = some (.ref f))
    (hk : PySem.W.keepIn X.K (.ref f) = true) (hb : Binds X.K fd ps []) (hx : ∀ σ, PassesAt cx X σ (E σ)) (ha : PA X (e :: es) t)
    (hdb : (x == ("__debug__" : Str)) = false := by decide) (he : starEach (e :: es) X.env = (false, eval e X.env) :: starEach es X.env := by rfl)
    (hpl : (backTo pos (starEach es X.env)).any (·.1) = false := by rfl) : PE X (.Call (.Name x p) (e :: es) [] pos) (tCallS sp E t) := by
  refine ⟨fun pins s σ H Q I h => wpAny_Call_Name_kw (ld_glob I hg hm ?_ hdb)⟩
  refine PySem.W.callWith_K (h₀ := X.base) I.ok.mod.kin hk ?_ he hpl
  refine thn (ha.run pos pins s σ H _ I h) fun us s1 ⟨vs, H1, I1, r, q⟩ => ⟨I1.kIn, ?_⟩
  have hl : us.length = ps.length := by
    rw [← r.length]
    exact G.len _ _ _ _ q
  have b := hb s1 us I1.kIn (by rw [List.append_nil]; exact hl)
  rw [List.append_nil] at b
  refine wpAny_call (codeAny_mono (G.run X.A X.stack s1 H1 ⟨us, []⟩ us vs Q (E σ) hgd hr I1.env0 b r q) fun w s2 hq => ?_)
  cases w with
  | error er => exact hx σ pins H1 s1 er s2 I1 hq
  | ok fl =>
    cases fl with
    | ret u => exact I1.after hq
    | next => exact hq.elim
    | brk => exact hq.elim
    | cont => exact hq.elim
theorem pe_ref {X : Cx} {x : Str} {C : Addr} {pos : Pos} (hg : Gl X x) (hm : X.mg x = some (.ref C)) (hdb : (x == ("__debug__" : Str)) = false := by decide) : PE X (.Name x pos) (tC (.ref C)) := pe_glob hg hm rfl hdb
/-- isinstance of one class against another one, by what the top says -/
theorem kit_ref {K : PySem.W.Frag} {C D : Addr} {b : Bool} (ne : C ≠ D) (hd : PySem.W.hasDictIn K D = true) (ht : PySem.W.typeIn K (.ref D) = some (.type "type"))
    (hs : PySem.W.subIn K (.ref C) (.ref D) = some b) : PySem.W.kitOne K (.ref C) (.ref D) = some b := by
  obtain ⟨cd, hc, _⟩ := PySem.W.any_some hd
  have e1 : ¬ ((Value.ref C == Value.ref D) = true) := fun z => ne (Value.ref.inj (beq_iff_eq.mp z))
  have e2 : ((PySem.W.clsIn K D).isSome && PySem.W.typeIn K (.ref D) == some (.type "type")) = true := by rw [hc, ht] <;> rfl
  unfold PySem.W.kitOne PySem.W.kitCls
  rw [if_neg e1]
  dsimp only
  rw [if_pos e2]
  exact hs
theorem kit_self {K : PySem.W.Frag} {C : Addr} : PySem.W.kitOne K (.ref C) (.ref C) = some true := by
  unfold PySem.W.kitOne
  rw [if_pos (beq_iff_eq.mpr rfl)]
theorem kit_nil {K : PySem.W.Frag} {C : Addr} : PySem.W.kitAny K (.ref C) [] = some false := rfl
theorem kit_cons {K : PySem.W.Frag} {C : Addr} {v : Value} {vs : List Value} (h : PySem.W.kitOne K (.ref C) v = some false) (t : PySem.W.kitAny K (.ref C) vs = some false) :
    PySem.W.kitAny K (.ref C) (v :: vs) = some false := by
  unfold PySem.W.kitAny
  rw [h]
  exact t
noncomputable def rMulU (K : PySem.W.Frag) : R2 := fun x y H Q => (rI CMul (fun i j => .int (i * j))) x y H Q ∨ (rRepT K x y H Q ∨ rRep x y H Q)
theorem op_mulU {X : Cx} : OpR X (binaryOp .Mult) (rMulU X.K) := op_mul.or (op_repT.or op_rep)
section
variable {K : PySem.W.Frag} {B : Addr → Prop} {D C L : Addr} {H H1 H2 : Hp} {t : Int} {σ : L2.St} {ds : List PyData} {d : PyData} {te : TE} {tx : TA} {j n : Nat}
theorem rpa_flat {xs : List V} (h : RpA K B H ds xs) : ∀ m : Nat, RpA K B H (List.replicate m ds).flatten (List.replicate m xs).flatten
  | 0 => RpA.nil
  | m + 1 => by
    rw [List.replicate_succ, List.replicate_succ, List.flatten_cons, List.flatten_cons]
    exact RpA.append h (rpa_flat h m)
theorem rd_repT {k : Int} (h0 : ds ≠ []) (h1 : 2 ≤ k) (h2 : k ≤ 1000) (hl : ds.length ≤ 1000) : RvD K B (rMulU K) (.tuple ds) (.int k) (.tuple (List.replicate k.toNat ds).flatten) :=
  fun H1 x y al hx hy Q q => by
  obtain ⟨a, xs, rfl, na, s, t⟩ := rp_tup.mp hx
  refine .inr (.inl ⟨a, k, xs, rfl, rp_int.mp hy, s, fun z => ?_, h1, h2, by rw [← t.length]; exact hl, fun p np => ?_⟩)
  · subst z
    exact h0 (List.length_eq_zero_iff.mp t.length)
  · exact q _ _ (same_new np) (rp_tup.mpr ⟨p, _, rfl, .inl (al.new np), SqT.of upd_same, (rpa_flat t _).up (Xt.of al (same_new np))⟩)
theorem rd_repL {k : Int} (h1 : 0 ≤ k) (h2 : k ≤ 1000) (hl : ds.length ≤ 1000) : RvD K B (rMulU K) (.list ds) (.int k) (.list (List.replicate k.toNat ds).flatten) :=
  fun H1 x y al hx hy Q q => by
  obtain ⟨a, xs, rfl, na, s, t⟩ := rp_lst.mp hx
  refine .inr (.inr ⟨a, k, xs, rfl, rp_int.mp hy, s, by omega, by omega, ?_, fun p np => ?_⟩)
  · rw [← t.length]
    refine Nat.le_trans (Nat.mul_le_mul hl (show k.toNat ≤ 1000 by omega)) (by decide)
  · exact q _ _ (same_new np) (rp_lst.mpr ⟨p, _, rfl, al.new np, upd_same, (rpa_flat t _).up (Xt.of al (same_new np))⟩)
theorem rd_mulI {i k : Int} (h : CMul i k) : RvD K B (rMulU K) (.int i) (.int k) (.int (i * k)) := fun H1 x y al hx hy Q q => .inl (rd_I (g := fun i j => i * j) h H1 x y al hx hy Q q)
theorem cutD_take (k : Nat) : cutD ds none (some (k : Int)) = ds.take k := by
  unfold cutD
  rw [HT.sIx_none, HT.sIx_nat, List.drop_zero, Nat.sub_zero, List.take_eq_take_iff]
  omega
theorem cutD_drop (k : Nat) : cutD ds (some (k : Int)) none = ds.drop k := by
  unfold cutD
  rw [HT.sIx_none, HT.sIx_nat]
  by_cases h : k ≤ ds.length
  · rw [Nat.min_eq_left h, List.take_of_length_le (by rw [List.length_drop]; omega)]
  · rw [Nat.min_eq_right (by omega), List.drop_length, List.drop_of_length_le (by omega)]
    exact List.take_nil
end
end CG
namespace CG
open PySem PySem.Spec PyProof.Rows L2
noncomputable def tyName : PyData → String
  | .none => "NoneType"
  | .bool _ => "bool"
  | .int _ => "int"
  | .str _ => "str"
  | .list _ => "list"
  | .tuple _ => "tuple"
  | .dict _ => "dict"
theorem Rp.ty {K : PySem.W.Frag} {B : Addr → Prop} {H : Hp} {v : V} : ∀ {d : PyData}, Rp K B H d v → TyX K H v (.type (tyName d))
  | .none, h => by rw [rp_non.mp h]; exact .base .non
  | .bool b, h => by rw [rp_bl.mp h]; exact .base (.bl b)
  | .int i, h => by rw [rp_int.mp h]; exact .base (.int i)
  | .str x, h => by rw [rp_str.mp h]; exact .base (.str x)
  | .list ds, h => by
    obtain ⟨a, xs, rfl, _, s, _⟩ := rp_lst.mp h
    exact .base (.lst s)
  | .tuple ds, h => by
    obtain ⟨a, xs, rfl, _, s, _⟩ := rp_tup.mp h
    rcases s with (s | ⟨o, s⟩) | ⟨o, its, n, s, c, _⟩
    · exact .base (.tup s)
    · exact .fTuple s
    · exact .kTuple s c
  | .dict kvs, h => by
    obtain ⟨a, es, rfl, _, s, _⟩ := rp_dct.mp h
    exact .base (.dK s)
theorem pe_ty {X : Cx} {x : Str} {T : String} {pos : Pos} (hg : Gl X x) (hm : X.mg x = none) (hv : bootBuiltins x = some (.type T)) (hn : x ≠ "__name__" := by decide) (hdb : (x == ("__debug__" : Str)) = false := by decide) :
    PE X (.Name x pos) (tC (.ty T)) := pe_bltn hg hm hv rfl hn hdb
noncomputable def isTup : PyData → Bool
  | .tuple _ => true
  | _ => false
end CG
namespace CG
open PySem PySem.Spec PyProof.Rows L2
noncomputable def rIsNU : R2 := fun x y H Q => y = .non ∧ Q (.bl (decide (x = .non))) H
noncomputable def isNone : PyData → Bool
  | .none => true
  | _ => false
noncomputable def rNeU (K : PySem.W.Frag) : R2 := fun x y H Q => rNe x y H Q ∨ rNeD K x y H Q
theorem op_neU {X : Cx} (hu : X.A.units + 64 < cLine) : OpR X (compareOp .NotEq) (rNeU X.K) := op_ne.or (op_neD hu)
noncomputable def rEqU (K : PySem.W.Frag) : R2 := fun x y H Q => rEq x y H Q ∨ rEqD K x y H Q
theorem op_eqU {X : Cx} (hu : X.A.units + 64 < cLine) : OpR X (compareOp .Eq) (rEqU X.K) := op_eq.or (op_eqD hu)
section
variable {K : PySem.W.Frag} {B : Addr → Prop} {D C L : Addr} {H H1 H2 : Hp} {t : Int} {σ : L2.St} {ds : List PyData} {d da db dc : PyData} {te ta tb tc : TE} {tx : TA} {tt : TT} {j n : Nat} {r r' : R2} {b c : Bool}
theorem rd_isN : RvD K B rIsNU d .none (.bool (isNone d)) := fun H1 x y al hx hy Q q => by
  refine ⟨rp_non.mp hy, ?_⟩
  have e : decide (x = V.non) = isNone d := by
    cases d with
    | none => rw [rp_non.mp hx]; rfl
    | bool b => rw [rp_bl.mp hx]; rfl
    | int i => rw [rp_int.mp hx]; rfl
    | str s => rw [rp_str.mp hx]; rfl
    | list ds =>
      obtain ⟨a, xs, rfl, _⟩ := rp_lst.mp hx
      rfl
    | tuple ds =>
      obtain ⟨a, xs, rfl, _⟩ := rp_tup.mp hx
      rfl
    | dict kvs =>
      obtain ⟨a, xs, rfl, _⟩ := rp_dct.mp hx
      rfl
  rw [e]
  exact q _ H1 (Same.refl H1) (rp_bl.mpr rfl)
mutual
theorem Rp.dp : ∀ (d : PyData) (v : V), Rp K B H d v → d.hasDict = false → Dp K H v d
  | .none, v, h, _ => by rw [rp_non.mp h]; exact .non
  | .bool b, v, h, _ => by rw [rp_bl.mp h]; exact .bl b
  | .int i, v, h, _ => by rw [rp_int.mp h]; exact .int i
  | .str x, v, h, _ => by rw [rp_str.mp h]; exact .str x
  | .list ds, v, h, hd => by
    obtain ⟨a, xs, rfl, _, s, t⟩ := rp_lst.mp h
    exact .lst (SqL.of s) (RpA.dp ds xs t (by simpa only [PyData.hasDict] using hd))
  | .tuple ds, v, h, hd => by
    obtain ⟨a, xs, rfl, _, s, t⟩ := rp_tup.mp h
    exact .tup s (RpA.dp ds xs t (by simpa only [PyData.hasDict] using hd))
  | .dict kvs, v, h, hd => by
    simp only [PyData.hasDict] at hd
    cases hd
theorem RpA.dp : ∀ (ds : List PyData) (xs : List V), RpA K B H ds xs → PyData.hasDictAll ds = false → DpAll K H xs ds
  | [], xs, h, _ => by rw [rpa_nil.mp h]; exact .nil
  | d :: ds, xs, h, hd => by
    obtain ⟨x, r, rfl, h1, h2⟩ := rpa_cons.mp h
    simp only [PyData.hasDictAll, Bool.or_eq_false_iff] at hd
    exact .cons (Rp.dp d x h1 hd.1) (RpA.dp ds r h2 hd.2)
end
theorem rd_neD (ha : da.hasDict = false) (hb : db.hasDict = false) (sa : SeqAt.shaped da = true) (sb : SeqAt.shaped db = true) : RvD K B (rNeU K) da db (.bool (!PyData.eqv da db)) := fun H1 x y al hx hy Q q =>
  .inr ⟨da, db, Rp.dp _ _ hx ha, Rp.dp _ _ hy hb, sa, sb, q _ H1 (Same.refl H1) (rp_bl.mpr rfl)⟩
theorem rd_eqD (ha : da.hasDict = false) (hb : db.hasDict = false) (sa : SeqAt.shaped da = true) (sb : SeqAt.shaped db = true) : RvD K B (rEqU K) da db (.bool (PyData.eqv da db)) := fun H1 x y al hx hy Q q =>
  .inr ⟨da, db, Rp.dp _ _ hx ha, Rp.dp _ _ hy hb, sa, sb, q _ H1 (Same.refl H1) (rp_bl.mpr rfl)⟩
end
end CG
namespace CG
open PySem PySem.Spec PyProof.Rows L2
/-- small, and without lists or without dicts -/
noncomputable def Sx (n m : Nat) (d : PyData) : Prop := Sm n m d ∨ SmT n m d
/-- small, without both -/
structure Tm (n m : Nat) (d : PyData) : Prop where
  a : Sm n m d
  b : SmT n m d
section
variable {n m n' m' : Nat} {d x : PyData} {ds : List PyData}
theorem Tm.mono (h : Tm n m d) (hn : n ≤ n') (hm : m ≤ m') : Tm n' m' d := ⟨h.a.mono hn hm, h.b.mono hn hm⟩
theorem Sx.mono (h : Sx n m d) (hn : n ≤ n') (hm : m ≤ m') : Sx n' m' d := h.imp (·.mono hn hm) (·.mono hn hm)
end
end CG
namespace CG
open PySem PySem.Spec PyProof.Rows L2
/-- all but the place L is kept -/
noncomputable def Pt (L : Addr) (H H2 : Hp) : Prop := ∀ a o, a ≠ L → H a = some o → H2 a = some o
/-- the list at L holds ds; no other data reaches it -/
structure Own (K : PySem.W.Frag) (B : Addr → Prop) (L : Addr) (H : Hp) (ds : List PyData) : Prop where
  nB : ¬ B L
  ex : ∃ vs, H L = some (.lst vs) ∧ RpA K (Bp B L) H ds vs
section
variable {K : PySem.W.Frag} {B : Addr → Prop} {D C L : Addr} {H H0 H1 H2 : Hp} {t t' n m : Int} {σ : L2.St} {te ta tb : TE} {tx : TA} {tt tu : TT} {d : PyData} {ds : List PyData}
  {Φ Ψ Θ : PyData → Prop} {Φs Ψs : List PyData → Prop} {Dd : Ends} {i : Nat}
theorem Pt.refl : Pt L H H := fun _ _ _ e => e
theorem Pt.trans (h : Pt L H H1) (k : Pt L H1 H2) : Pt L H H2 := fun a o n e => k a o n (h a o n e)
theorem Pt.same (h : Pt L H H1) (k : Same H1 H2) : Pt L H H2 := fun a o n e => k a o (h a o n e)
theorem Pt.of (k : Same H H1) : Pt L H H1 := fun a o _ e => k a o e
theorem Pt.put {o : HO} : Pt L H (upd H L o) := fun a u n e => by rw [upd_ne n]; exact e
theorem Pt.xt (h : Pt L H H1) (al : Al (Bp B L) H1) : Xt (Bp B L) H H1 := ⟨fun a o nb e => h a o (fun z => nb (.inr z)) e, al⟩
theorem Dk.nD (k : Dk B H D C t) (nB : ¬ B L) : D ≠ L := fun e => nB (e ▸ k.bD)
theorem Dk.nC (k : Dk B H D C t) (nB : ¬ B L) : C ≠ L := fun e => nB (e ▸ k.bC)
theorem Dk.pt (k : Dk (Bp B L) H D C t) (h : Pt L H H1) (al : Al (Bp B L) H1) (nD : D ≠ L) (nC : C ≠ L) : Dk (Bp B L) H1 D C t := by
  obtain ⟨bD, bC, _, ne, nn, cs, h1, h2, h3⟩ := k
  exact ⟨bD, bC, al, ne, nn, cs, h _ _ nD h1, h _ _ nC h2, h3⟩
theorem Own.same (o : Own K B L H ds) (al : Al (Bp B L) H) (e : Same H H1) : Own K B L H1 ds := by
  obtain ⟨nB, vs, h1, h2⟩ := o
  exact ⟨nB, vs, e _ _ h1, h2.up (Xt.of al e)⟩
theorem Own.rp (o : Own K B L H ds) : Rp K B H (.list ds) (.ref L) := by
  obtain ⟨nB, vs, h1, h2⟩ := o
  exact rp_lst.mpr ⟨L, vs, rfl, nB, h1, RpA.less bp_up _ _ h2⟩
theorem al_new {o : List V} (al : Al B H) : Al (Bp B L) (upd H L (.lst o)) := fun a h => by
  by_cases z : a = L
  · rw [z, upd_same]; first | exact trivial | simp
  · rw [upd_ne z]
    exact h.elim (al a) fun e => absurd e z
end
end CG
namespace CG
open PySem PySem.Spec PyProof.Rows L2
/-- a state: how many draws, the data of the objects -/
structure Tq where
  n : Int
  o : Nat → Str → Option PyData
instance : OfNat Tq 0 := ⟨⟨0, fun _ _ => none⟩⟩
noncomputable def Tq.setO (t : Tq) (i : Nat) (o' : Str → Option PyData) : Tq := ⟨t.n, fun j => if j = i then o' else t.o j⟩
/-- a thing that is drawn from: its places, where it stands, what is true of it after t draws -/
structure Dck where
  pl : Addr → Prop
  D : Addr
  adr : Nat → Addr
  us : List Nat
  ok : Hp → Tq → Prop
  live : ∀ {H : Hp} {t : Tq} {a : Addr}, ok H t → pl a → Lv (H a)
  stay : ∀ {H H1 : Hp} {t : Tq}, ok H t → (∀ a o, pl a → H a = some o → H1 a = some o) → (∀ a xs, Rd H a (.tup xs) → Rd H1 a (.tup xs)) → (∀ a x, H a = some (.own x) → H1 a = some (.own x)) → (∀ a φ, H a = some (.ext φ) → H1 a = some (.ext φ)) → ok H1 t
  fre : ∀ {H : Hp} {t : Tq} {i : Nat} {o' : Str → Option PyData}, i ∉ us → ok H t → ok H (t.setO i o')
/-- nothing to draw from -/
noncomputable def Dck.no : Dck := ⟨fun _ => False, (0 : Nat), fun _ => (0 : Nat), [], fun _ _ => True, fun _ h => h.elim, fun _ _ _ _ _ => trivial, fun _ _ => trivial⟩
/-- what a slot holds -/
inductive Sl where
  | un
  | dat (d : PyData)
  | own (ds : List PyData)
  | deck (M : Dck → Prop)
  | ptr (i : Nat) (M : Dck → Prop)
  | fn (f c : Addr) (o : HO) (d : PyData) (v : V)
noncomputable abbrev En := List Sl
noncomputable def RepS (K : PySem.W.Frag) (m : Dck) (B0 B : Addr → Prop) (H : Hp) : Option Sl → Option (Option V) → Prop
  | some (.dat d), x => ∃ v, x = some (some v) ∧ Rp K B H d v
  | some (.own ds), x => ∃ p vs, x = some (some (.ref p)) ∧ B p ∧ ¬ B0 p ∧ ¬ m.pl p ∧ H p = some (.lst vs) ∧ RpA K B H ds vs
  | some (.deck M), x => x = some (some (.ref m.D)) ∧ M m
  | some (.ptr i M), x => x = some (some (.ref (m.adr i))) ∧ i ∈ m.us ∧ M m
  | some (.fn f c o d v), x => (x = some (some (.ref f)) ∧ H c = some o ∧ ¬ Lv (some o)) ∧ Rp K B H d v
  | _, _ => True
/-- the slots σ over the heap H hold what e says -/
structure Rep (K : PySem.W.Frag) (m : Dck) (B0 B : Addr → Prop) (e : En) (σ : L2.St) (H : Hp) (t : Tq) : Prop where
  al : Al B H
  pb : ∀ a, m.pl a → B a
  b0 : ∀ a, B0 a → B a
  ok : m.ok H t
  ln : e.length = σ.length
  sl : ∀ i : Nat, RepS K m B0 B H e[i]? σ[i]?
  ow : ∀ (i j : Nat) (p : Addr) (ds es : List PyData), e[i]? = some (.own ds) → e[j]? = some (.own es) → σ[i]? = some (some (.ref p)) → σ[j]? = some (some (.ref p)) → i = j
section
variable {K : PySem.W.Frag} {m : Dck} {B0 B B' : Addr → Prop} {H H0 H1 H2 : Hp} {t t' : Tq} {e : En} {σ : L2.St} {i : Nat}
theorem Dck.al (m : Dck) (h : m.ok H t) : Al m.pl H := fun a p => m.live h p
/-- what is kept but for the deck is kept but for B -/
theorem xt_wd (al : Al B H) (pb : ∀ a, m.pl a → B a) (x : Xt m.pl H H1) : Xt B H H1 := ⟨fun a o nb e => x.kp a o (fun z => nb (pb a z)) e, fun a h => by
  by_cases z : m.pl a
  · exact x.al a z
  · cases q : H a with
    | none => exact absurd q (al a h).ne
    | some o => have zz := al a h; rw [q] at zz; rw [x.kp a o z q]; exact zz⟩
theorem Dck.same (m : Dck) (h : m.ok H t) (s : Same H H1) : m.ok H1 t := m.stay h (fun a o _ e => s a o e) (fun a xs e => e.elim (fun e => .inl (s a _ e)) fun ⟨o, e⟩ => .inr ⟨o, s a _ e⟩) (fun a x e => s a _ e) (fun a φ e => s a _ e)
theorem Dck.putV (m : Dck) {L : Addr} {o : HO} (k : m.ok H t) (np : ¬ m.pl L) (lv : Lv (H L)) : m.ok (upd H L o) t := m.stay k (fun a u pa e => by
  rw [upd_ne (fun w : a = L => np (w ▸ pa))]
  exact e) (fun a xs e => by
  have ne : a ≠ L := fun w => by
    rw [w] at e
    rcases e with e | ⟨o, e⟩
    · rw [e] at lv; exact lv
    · rw [e] at lv; exact lv
  rcases e with e | ⟨o, e⟩
  · exact .inl (by rw [upd_ne ne]; exact e)
  · exact .inr ⟨o, by rw [upd_ne ne]; exact e⟩) (fun a x e => by
  rw [upd_ne (fun w : a = L => by rw [w] at e; rw [e] at lv; exact lv)]
  exact e) (fun a φ e => by
  rw [upd_ne (fun w : a = L => by rw [w] at e; rw [e] at lv; exact lv)]
  exact e)
theorem Dck.xs (m : Dck) (h : m.ok H t) (s : Same H H1) : Xt m.pl H H1 := Xt.of (m.al h) s
theorem RepS.up {x : Option Sl} {y : Option (Option V)} (h : RepS K m B0 B H x y) (pb : ∀ a, m.pl a → B a) (al : Al B H) (z : Xt m.pl H H1) : RepS K m B0 B H1 x y := by
  have w := xt_wd al pb z
  match x, h with
  | some (.dat d), h =>
    obtain ⟨v, rfl, r⟩ := h
    exact ⟨v, rfl, r.up w⟩
  | some (.own ds), h =>
    obtain ⟨p, vs, rfl, b, b0, np, hp, r⟩ := h
    exact ⟨p, vs, rfl, b, b0, np, z.kp p _ np hp, r.up w⟩
  | some (.deck M), h => exact h
  | some (.ptr _ M), h => exact h
  | some (.fn _ _ _ _ _), h => exact ⟨⟨h.1.1, w.kp _ _ (fun b => h.1.2.2 (h.1.2.1 ▸ al _ b)) h.1.2.1, h.1.2.2⟩, h.2.up w⟩
  | some .un, _ => trivial
  | none, _ => trivial
theorem Rep.up (r : Rep K m B0 B e σ H t) (x : Xt m.pl H H1) (k : m.ok H1 t') : Rep K m B0 B e σ H1 t' :=
  ⟨(xt_wd r.al r.pb x).al, r.pb, r.b0, k, r.ln, fun i => (r.sl i).up r.pb r.al x, r.ow⟩
theorem Rep.wd (r : Rep K m B0 B e σ H t) (x : Xt m.pl H H1) : Xt B H H1 := xt_wd r.al r.pb x
theorem Rep.same (r : Rep K m B0 B e σ H t) (s : Same H H1) : Rep K m B0 B e σ H1 t := r.up (m.xs r.ok s) (m.same r.ok s)
/-- reading a slot -/
noncomputable def rdS : Option Sl → (PyData → Prop) → Prop
  | some (.dat d), k => k d
  | _, _ => False
theorem Rep.var {k : PyData → Prop} (r : Rep K m B0 B e σ H t) (h : rdS e[i]? k) : ∃ d v, σ[i]? = some (some v) ∧ k d ∧ Rp K B H d v ∧ e[i]? = some (.dat d) := by
  have s := r.sl i
  cases q : e[i]? with
  | none => rw [q] at h; exact h.elim
  | some x =>
    rw [q] at h s
    cases x with
    | dat d =>
      obtain ⟨v, e1, r1⟩ := s
      exact ⟨d, v, e1, h, r1, rfl⟩
    | un => exact h.elim
    | own ds => exact h.elim
    | deck M => exact h.elim
    | ptr _ _ => exact h.elim
    | fn _ _ _ _ _ => exact h.elim
/-- a slot is set -/
theorem Rep.set {d : PyData} {v : V} (r : Rep K m B0 B e σ H t) (rv : Rp K B H d v) : Rep K m B0 B (e.set i (.dat d)) (σ.set i (some v)) H t := by
  refine ⟨r.al, r.pb, r.b0, r.ok, by rw [List.length_set, List.length_set]; exact r.ln, fun j => ?_, fun a b p ds es h1 h2 h3 h4 => ?_⟩
  · by_cases z : i = j
    · subst z
      by_cases hl : i < e.length
      · rw [List.getElem?_set_self hl, List.getElem?_set_self (by rw [← r.ln]; exact hl)]
        exact ⟨v, rfl, rv⟩
      · rw [List.getElem?_eq_none (by rw [List.length_set]; omega)]
        trivial
    · rw [List.getElem?_set_ne z, List.getElem?_set_ne z]
      exact r.sl j
  · have na : i ≠ a := fun z => by
      subst z
      by_cases hl : i < e.length
      · rw [List.getElem?_set_self hl] at h1; cases h1
      · rw [List.getElem?_eq_none (by rw [List.length_set]; omega)] at h1; cases h1
    have nb : i ≠ b := fun z => by
      subst z
      by_cases hl : i < e.length
      · rw [List.getElem?_set_self hl] at h2; cases h2
      · rw [List.getElem?_eq_none (by rw [List.length_set]; omega)] at h2; cases h2
    rw [List.getElem?_set_ne na] at h1 h3
    rw [List.getElem?_set_ne nb] at h2 h4
    exact r.ow a b p ds es h1 h2 h3 h4
/-- a slot is forgotten -/
theorem Rep.drop {x : Option V} (r : Rep K m B0 B e σ H t) : Rep K m B0 B (e.set i .un) (σ.set i x) H t := by
  refine ⟨r.al, r.pb, r.b0, r.ok, by rw [List.length_set, List.length_set]; exact r.ln, fun j => ?_, fun a b p ds es h1 h2 h3 h4 => ?_⟩
  · by_cases z : i = j
    · subst z
      by_cases hl : i < e.length
      · rw [List.getElem?_set_self hl]
        trivial
      · rw [List.getElem?_eq_none (by rw [List.length_set]; omega)]
        trivial
    · rw [List.getElem?_set_ne z, List.getElem?_set_ne z]
      exact r.sl j
  · have na : i ≠ a := fun z => by
      subst z
      by_cases hl : i < e.length
      · rw [List.getElem?_set_self hl] at h1; cases h1
      · rw [List.getElem?_eq_none (by rw [List.length_set]; omega)] at h1; cases h1
    have nb : i ≠ b := fun z => by
      subst z
      by_cases hl : i < e.length
      · rw [List.getElem?_set_self hl] at h2; cases h2
      · rw [List.getElem?_eq_none (by rw [List.length_set]; omega)] at h2; cases h2
    rw [List.getElem?_set_ne na] at h1 h3
    rw [List.getElem?_set_ne nb] at h2 h4
    exact r.ow a b p ds es h1 h2 h3 h4
/-- more places are avoided -/
theorem RepS.grow {x : Option Sl} {y : Option (Option V)} (g : Gw B B' H) (h : RepS K m B0 B H x y) : RepS K m B0 B' H x y := by
  match x, h with
  | some (.dat d), h =>
    obtain ⟨v, rfl, r⟩ := h
    exact ⟨v, rfl, Rp.grow g _ _ r⟩
  | some (.own ds), h =>
    obtain ⟨p, vs, rfl, b, b0, np, hp, r⟩ := h
    exact ⟨p, vs, rfl, g.up p b, b0, np, hp, RpA.grow g _ _ r⟩
  | some (.deck M), h => exact h
  | some (.ptr _ M), h => exact h
  | some (.fn _ _ _ _ _), h => exact ⟨h.1, Rp.grow g _ _ h.2⟩
  | some .un, _ => trivial
  | none, _ => trivial
/-- a place that came later is avoided -/
theorem Rep.under {L : Addr} (r : Rep K m B0 B e σ H t) (n : H L = none) (x : Xt m.pl H H1) (k : m.ok H1 t') (h1 : Lv (H1 L)) : Rep K m B0 (Bp B L) e σ H1 t' := by
  have g : Gw B (Bp B L) H := gw_new n
  have al : Al (Bp B L) H1 := fun a h => h.elim (fun b => (xt_wd r.al r.pb x).al a b) fun e => e ▸ h1
  have y : Xt (Bp B L) H H1 := ⟨fun a u nb e => x.kp a u (fun z => nb (.inl (r.pb a z))) e, al⟩
  refine ⟨al, fun a p => .inl (r.pb a p), fun a p => .inl (r.b0 a p), k, r.ln, fun i => ?_, r.ow⟩
  have h := RepS.grow g (r.sl i)
  revert h
  generalize e[i]? = y
  generalize σ[i]? = z
  intro h
  match y, h with
  | some (.dat d), h =>
    obtain ⟨v, rfl, r⟩ := h
    exact ⟨v, rfl, r.up (by assumption)⟩
  | some (.own ds), h =>
    obtain ⟨p, vs, rfl, b, b0, np, hp, r⟩ := h
    exact ⟨p, vs, rfl, b, b0, np, x.kp p _ np hp, r.up (by assumption)⟩
  | some (.deck M), h => exact h
  | some (.ptr _ M), h => exact h
  | some (.fn _ _ _ _ _), h => exact ⟨⟨h.1.1, x.kp _ _ (fun b => h.1.2.2 (h.1.2.1 ▸ r.al _ (r.pb _ b))) h.1.2.1, h.1.2.2⟩, h.2.up (by assumption)⟩
  | some .un, _ => trivial
  | none, _ => trivial
end
noncomputable abbrev PK := PyData → Tq → Prop
/-- a reading, its wish over data -/
structure AE (K : PySem.W.Frag) where
  te : TE
  wp : En → Tq → PK → Prop
  ok : ∀ {m : Dck} {B0 B : Addr → Prop} {e : En} {σ : L2.St} {H : Hp} {t : Tq} {k : PK}, Rep K m B0 B e σ H t → wp e t k → ∀ Q : VK,
    (∀ v d H2 t', Xt m.pl H H2 → m.ok H2 t' → k d t' → Rp K B H2 d v → Q v H2) → te σ H Q
structure AA (K : PySem.W.Frag) where
  ta : TA
  wp : En → Tq → (List PyData → Tq → Prop) → Prop
  ok : ∀ {m : Dck} {B0 B : Addr → Prop} {e : En} {σ : L2.St} {H : Hp} {t : Tq} {k : List PyData → Tq → Prop}, Rep K m B0 B e σ H t → wp e t k → ∀ Q : List V → Hp → Prop,
    (∀ vs ds H2 t', Xt m.pl H H2 → m.ok H2 t' → k ds t' → RpA K B H2 ds vs → Q vs H2) → ta σ H Q
structure AT (K : PySem.W.Frag) where
  tt : TT
  wp : En → Tq → (Bool → Tq → Prop) → Prop
  ok : ∀ {m : Dck} {B0 B : Addr → Prop} {e : En} {σ : L2.St} {H : Hp} {t : Tq} {k : Bool → Tq → Prop}, Rep K m B0 B e σ H t → wp e t k → ∀ Q : Bool → Hp → Prop,
    (∀ b H2 t', Xt m.pl H H2 → m.ok H2 t' → k b t' → Q b H2) → tt σ H Q
structure AO (K : PySem.W.Frag) where
  tO : TO
  wp : En → Tq → (Option Int → Tq → Prop) → Prop
  ok : ∀ {m : Dck} {B0 B : Addr → Prop} {e : En} {σ : L2.St} {H : Hp} {t : Tq} {k : Option Int → Tq → Prop}, Rep K m B0 B e σ H t → wp e t k → ∀ Q : Option Int → Hp → Prop,
    (∀ b H2 t', Xt m.pl H H2 → m.ok H2 t' → k b t' → Q b H2) → tO σ H Q
/-- an operation on data -/
structure A2 (K : PySem.W.Frag) where
  r : R2
  f : PyData → PyData → (PyData → Prop) → Prop
  ok : ∀ {B : Addr → Prop} {a b : PyData} {k : PyData → Prop}, f a b k → ∃ c, k c ∧ RvD K B r a b c
structure A1 (K : PySem.W.Frag) where
  r : V → Hp → VK → Prop
  f : PyData → (PyData → Prop) → Prop
  ok : ∀ {B : Addr → Prop} {a : PyData} {k : PyData → Prop}, f a k → ∃ c, k c ∧ RuD K B r a c
structure AC (K : PySem.W.Frag) where
  r : List V → Hp → VK → Prop
  f : List PyData → (PyData → Prop) → Prop
  ok : ∀ {B : Addr → Prop} {as : List PyData} {k : PyData → Prop}, f as k → ∃ c, k c ∧ RcD K B r as c
/-- what a def does to data: the result and the draws -/
structure Pm where
  w : List PyData → Tq → PK → Prop
  mono : ∀ {ds : List PyData} {t : Tq} {k k' : PK}, (∀ d t', k d t' → k' d t') → w ds t k → w ds t k'
/-- the promise of a def over data -/
noncomputable def spA (K : PySem.W.Frag) (p : Pm) : Sp := fun vs H Q _ => ∃ (m : Dck) (B : Addr → Prop) (t : Tq) (ds : List PyData), Al B H ∧ (∀ a, m.pl a → B a) ∧ m.ok H t ∧ RpA K B H ds vs ∧
  p.w ds t fun d t' => ∀ v H', Xt m.pl H H' → m.ok H' t' → Rp K B H' d v → Q v H'
/-- .. whose first argument is what is drawn from -/
noncomputable def spD (K : PySem.W.Frag) (M : Dck → Prop) (p : Pm) : Sp := fun vs H Q _ => ∃ (m : Dck) (B : Addr → Prop) (t : Tq) (ds : List PyData) (ws : List V), vs = .ref m.D :: ws ∧ M m ∧ Al B H ∧ (∀ a, m.pl a → B a) ∧ m.ok H t ∧ RpA K B H ds ws ∧
  p.w ds t fun d t' => ∀ v H', Xt m.pl H H' → m.ok H' t' → Rp K B H' d v → Q v H'
section
variable {K : PySem.W.Frag}
noncomputable def AE.var (K : PySem.W.Frag) (i : Nat) : AE K := ⟨tVar i, fun e t k => rdS e[i]? fun d => k d t, fun {m B0 B e σ H t k} r h Q q => by
  obtain ⟨d, v, e1, hk, rv, _⟩ := r.var h
  exact ⟨v, e1, q v d H t (Xt.refl (m.al r.ok)) r.ok hk rv⟩⟩
noncomputable def AE.int (K : PySem.W.Frag) (i : Int) : AE K := ⟨tC (.int i), fun _ t k => k (.int i) t, fun {m B0 B e σ H t k} r h Q q => q _ _ H t (Xt.refl (m.al r.ok)) r.ok h (rp_int.mpr rfl)⟩
noncomputable def AE.bl (K : PySem.W.Frag) (b : Bool) : AE K := ⟨tC (.bl b), fun _ t k => k (.bool b) t, fun {m B0 B e σ H t k} r h Q q => q _ _ H t (Xt.refl (m.al r.ok)) r.ok h (rp_bl.mpr rfl)⟩
noncomputable def AE.str (K : PySem.W.Frag) (z : Str) : AE K := ⟨tC (.str z), fun _ t k => k (.str z) t, fun {m B0 B e σ H t k} r h Q q => q _ _ H t (Xt.refl (m.al r.ok)) r.ok h (rp_str.mpr rfl)⟩
noncomputable def AE.non (K : PySem.W.Frag) : AE K := ⟨tC .non, fun _ t k => k .none t, fun {m B0 B e σ H t k} r h Q q => q _ _ H t (Xt.refl (m.al r.ok)) r.ok h (rp_non.mpr rfl)⟩
noncomputable def AE.op (o : A2 K) (a b : AE K) : AE K := ⟨tOp o.r a.te b.te, fun e t k => a.wp e t fun x t1 => b.wp e t1 fun y t2 => o.f x y fun z => k z t2, fun {m B0 B e σ H t k} r h Q q =>
  a.ok r h _ fun v x H1 t1 x1 k1 h1 r1 => b.ok (r.up x1 k1) h1 _ fun w y H2 t2 x2 k2 h2 r2 => by
    obtain ⟨c, hc, rc⟩ := o.ok (B := B) h2
    have s1 := r.up x1 k1
    have s2 := s1.up x2 k2
    exact rc H2 v w s2.al (r1.up (s1.wd x2)) r2 Q fun z H3 e3 r3 => q z c H3 t2 (x1.trans (x2.trans (m.xs k2 e3))) (m.same k2 e3) hc r3⟩
noncomputable def AE.un (o : A1 K) (a : AE K) : AE K := ⟨tUn o.r a.te, fun e t k => a.wp e t fun x t1 => o.f x fun z => k z t1, fun {m B0 B e σ H t k} r h Q q =>
  a.ok r h _ fun v x H1 t1 x1 k1 h1 r1 => by
    obtain ⟨c, hc, rc⟩ := o.ok (B := B) h1
    exact rc H1 v (r.up x1 k1).al r1 Q fun z H3 e3 r3 => q z c H3 t1 (x1.trans (m.xs k1 e3)) (m.same k1 e3) hc r3⟩
noncomputable def AA.nil (K : PySem.W.Frag) : AA K := ⟨tNil, fun _ t k => k [] t, fun {m B0 B e σ H t k} r h Q q => q _ _ H t (Xt.refl (m.al r.ok)) r.ok h RpA.nil⟩
noncomputable def AA.cons (a : AE K) (b : AA K) : AA K := ⟨tCons a.te b.ta, fun e t k => a.wp e t fun x t1 => b.wp e t1 fun xs t2 => k (x :: xs) t2, fun {m B0 B e σ H t k} r h Q q =>
  a.ok r h _ fun v x H1 t1 x1 k1 h1 r1 => b.ok (r.up x1 k1) h1 _ fun vs xs H2 t2 x2 k2 h2 r2 =>
    q _ _ H2 t2 (x1.trans x2) k2 h2 (.cons (r1.up ((r.up x1 k1).wd x2)) r2)⟩
noncomputable def AE.tup (a : AA K) : AE K := ⟨tTup a.ta, fun e t k => a.wp e t fun ds t1 => ds.length ≤ 100000 ∧ k (.tuple ds) t1, fun {m B0 B e σ H t k} r h Q q =>
  a.ok r h _ fun vs ds H1 t1 x1 k1 h1 r1 => ⟨by rw [← r1.length]; exact Nat.le_trans h1.1 (by decide), fun p np =>
    q _ _ _ t1 (x1.trans (m.xs k1 (same_new np))) (m.same k1 (same_new np)) h1.2
      (rp_tup.mpr ⟨p, vs, rfl, .inl ((r.up x1 k1).al.new np), SqT.of upd_same, r1.up (Xt.of (r.up x1 k1).al (same_new np))⟩)⟩⟩
noncomputable def AE.lst (a : AA K) : AE K := ⟨tLst a.ta, fun e t k => a.wp e t fun ds t1 => ds.length ≤ 100000 ∧ k (.list ds) t1, fun {m B0 B e σ H t k} r h Q q =>
  a.ok r h _ fun vs ds H1 t1 x1 k1 h1 r1 => ⟨by rw [← r1.length]; exact Nat.le_trans h1.1 (by decide), fun p np =>
    q _ _ _ t1 (x1.trans (m.xs k1 (same_new np))) (m.same k1 (same_new np)) h1.2
      (rp_lst.mpr ⟨p, vs, rfl, (r.up x1 k1).al.new np, upd_same, r1.up (Xt.of (r.up x1 k1).al (same_new np))⟩)⟩⟩
noncomputable def AE.cb (o : AC K) (a : AA K) : AE K := ⟨tCB o.r a.ta, fun e t k => a.wp e t fun ds t1 => o.f ds fun z => k z t1, fun {m B0 B e σ H t k} r h Q q =>
  a.ok r h _ fun vs ds H1 t1 x1 k1 h1 r1 => by
    obtain ⟨c, hc, rc⟩ := o.ok (B := B) h1
    exact rc H1 vs (r.up x1 k1).al r1 Q fun z H3 e3 r3 => q z c H3 t1 (x1.trans (m.xs k1 e3)) (m.same k1 e3) hc r3⟩
/-- f(..) -/
noncomputable def AE.call (p : Pm) (E : XK) (a : AA K) : AE K := ⟨tCall (spA K p) [] E a.ta, fun e t k => a.wp e t fun ds t1 => p.w ds t1 k, fun {m B0 B e σ H t k} r h Q q =>
  a.ok r h _ fun vs ds H1 t1 x1 k1 h1 r1 => by
    have s := r.up x1 k1
    refine ⟨m, B, t1, ds, s.al, s.pb, k1, by rw [List.append_nil]; exact r1, p.mono (fun d t' hk => ?_) h1⟩
    exact fun v H' x k2 rv => q v d H' t' (x1.trans x) k2 hk rv⟩
noncomputable def dkS : Option Sl → (Dck → Prop) → Prop
  | some (.deck M), N => M = N
  | _, _ => False
theorem Rep.dk {m : Dck} {B0 B : Addr → Prop} {e : En} {σ : L2.St} {H : Hp} {t : Tq} {i : Nat} {M : Dck → Prop} (r : Rep K m B0 B e σ H t) (h : dkS e[i]? M) : σ[i]? = some (some (.ref m.D)) ∧ M m := by
  have s := r.sl i
  cases q : e[i]? with
  | none => rw [q] at h; exact h.elim
  | some x =>
    rw [q] at h s
    cases x with
    | deck N =>
      obtain rfl : N = M := h
      exact s
    | un => exact h.elim
    | own ds => exact h.elim
    | ptr _ _ => exact h.elim
    | fn _ _ _ _ _ => exact h.elim
    | dat M => exact h.elim
/-- f(deck, ..) -/
noncomputable def AE.callD (M : Dck → Prop) (p : Pm) (E : XK) (i : Nat) (a : AA K) : AE K := ⟨tCall (spD K M p) [] E (tCons (tVar i) a.ta), fun e t k => dkS e[i]? M ∧ a.wp e t fun ds t1 => p.w ds t1 k, fun {m B0 B e σ H t k} r h Q q => by
  obtain ⟨h1, h2⟩ := r.dk h.1
  refine ⟨.ref m.D, h1, a.ok r h.2 _ fun vs ds H1 t1 x1 k1 h3 r1 => ?_⟩
  have s := r.up x1 k1
  refine ⟨m, B, t1, ds, vs, by rw [List.append_nil], h2, s.al, s.pb, k1, r1, p.mono (fun d t' hk => ?_) h3⟩
  exact fun v H' x k2 rv => q v d H' t' (x1.trans x) k2 hk rv⟩
noncomputable def unB : PyData → (Bool → Prop) → Prop
  | .bool b, k => k b
  | _, _ => False
theorem unB_of {d : PyData} {k : Bool → Prop} (h : unB d k) : ∃ b, d = .bool b ∧ k b := by
  cases d with
  | bool b => exact ⟨b, rfl, h⟩
  | _ => exact h.elim
noncomputable def AT.test (a : AE K) : AT K := ⟨tTest a.te, fun e t k => a.wp e t fun d t1 => unB d fun b => k b t1, fun {m B0 B e σ H t k} r h Q q =>
  a.ok r h _ fun v d H1 t1 x1 k1 h1 r1 => by
    obtain ⟨b, rfl, hb⟩ := unB_of h1
    exact ⟨b, rp_bl.mp r1, q b H1 t1 x1 k1 hb⟩⟩
noncomputable def AT.b (a : AE K) : AT K := ⟨tB a.te, fun e t k => a.wp e t fun d t1 => unB d fun b => k b t1, fun {m B0 B e σ H t k} r h Q q =>
  a.ok r h _ fun v d H1 t1 x1 k1 h1 r1 => by
    obtain ⟨b, rfl, hb⟩ := unB_of h1
    exact ⟨b, rp_bl.mp r1, q b H1 t1 x1 k1 hb⟩⟩
noncomputable def AT.not (a : AT K) : AT K := ⟨tNot a.tt, fun e t k => a.wp e t fun b t1 => k (!b) t1, fun {m B0 B e σ H t k} r h Q q =>
  a.ok r h _ fun b H1 t1 x1 k1 h1 => q _ H1 t1 x1 k1 h1⟩
noncomputable def AT.and (a b : AT K) : AT K := ⟨tAnd a.tt b.tt, fun e t k => a.wp e t fun c t1 => if c = true then b.wp e t1 k else k false t1, fun {m B0 B e σ H t k} r h Q q =>
  a.ok r h _ fun c H1 t1 x1 k1 h1 => by
    cases c with
    | true =>
      rw [if_pos rfl] at h1 ⊢
      exact b.ok (r.up x1 k1) h1 _ fun c H2 t2 x2 k2 h2 => q c H2 t2 (x1.trans x2) k2 h2
    | false =>
      rw [if_neg (by decide)] at h1 ⊢
      exact q _ H1 t1 x1 k1 h1⟩
noncomputable def AT.or (a b : AT K) : AT K := ⟨tOr a.tt b.tt, fun e t k => a.wp e t fun c t1 => if c = true then k true t1 else b.wp e t1 k, fun {m B0 B e σ H t k} r h Q q =>
  a.ok r h _ fun c H1 t1 x1 k1 h1 => by
    cases c with
    | true =>
      rw [if_pos rfl] at h1 ⊢
      exact q _ H1 t1 x1 k1 h1
    | false =>
      rw [if_neg (by decide)] at h1 ⊢
      exact b.ok (r.up x1 k1) h1 _ fun c H2 t2 x2 k2 h2 => q c H2 t2 (x1.trans x2) k2 h2⟩
noncomputable def AT.yes (K : PySem.W.Frag) : AT K := ⟨tYes, fun _ t k => k true t, fun {m B0 B e σ H t k} r h Q q => q _ H t (Xt.refl (m.al r.ok)) r.ok h⟩
noncomputable def AE.or (a b : AE K) : AE K := ⟨tOrV a.te b.te, fun e t k => a.wp e t fun d t1 => unB d fun c => if c = true then k (.bool true) t1 else b.wp e t1 k, fun {m B0 B e σ H t k} r h Q q =>
  a.ok r h _ fun v d H1 t1 x1 k1 h1 r1 => by
    obtain ⟨c, rfl, h3⟩ := unB_of h1
    clear h1
    refine ⟨c, rp_bl.mp r1, ?_⟩
    cases c with
    | true =>
      rw [if_pos rfl] at h3 ⊢
      exact q _ _ H1 t1 x1 k1 h3 (rp_bl.mpr rfl)
    | false =>
      rw [if_neg (by decide)] at h3 ⊢
      exact b.ok (r.up x1 k1) h3 _ fun v d H2 t2 x2 k2 h2 r2 => q v d H2 t2 (x1.trans x2) k2 h2 r2⟩
noncomputable def AO.none (K : PySem.W.Frag) : AO K := ⟨tNoPart, fun _ t k => k .none t, fun {m B0 B e σ H t k} r h Q q => q _ H t (Xt.refl (m.al r.ok)) r.ok h⟩
noncomputable def unI : PyData → (Int → Prop) → Prop
  | .int i, k => k i
  | _, _ => False
theorem unI_of {d : PyData} {k : Int → Prop} (h : unI d k) : ∃ b, d = .int b ∧ k b := by
  cases d with
  | int b => exact ⟨b, rfl, h⟩
  | _ => exact h.elim
noncomputable def AO.some (a : AE K) : AO K := ⟨tPart a.te, fun e t k => a.wp e t fun d t1 => unI d fun i => k (.some i) t1, fun {m B0 B e σ H t k} r h Q q =>
  a.ok r h _ fun v d H1 t1 x1 k1 h1 r1 => by
    obtain ⟨c, rfl, h1⟩ := unI_of h1
    exact ⟨c, rp_int.mp r1, q _ H1 t1 x1 k1 h1⟩⟩
end
end CG
namespace CG
open PySem PySem.Spec PyProof.Rows L2
/-- the walk J goes over ds as long as what stands in H2 but for B stands -/
structure Sq (K : PySem.W.Frag) (J : It) (B : Addr → Prop) (H2 : Hp) (ds : List PyData) : Prop where
  go : ∀ i H' B', i < ds.length → Gw B B' H2 → Xt B' H2 H' → J.go i H'
  st : ∀ H' B', Gw B B' H2 → Xt B' H2 H' → J.stop ds.length H'
  yl : ∀ (i : Nat) d x H' H3 B', ds[i]? = some d → Gw B B' H2 → Xt B' H2 H' → J.yld i H' x H3 → Same H' H3 ∧ Rp K B' H3 d x
structure AI (K : PySem.W.Frag) where
  ti : TI
  wp : En → Tq → (List PyData → Tq → Prop) → Prop
  ok : ∀ {m : Dck} {B0 B : Addr → Prop} {e : En} {σ : L2.St} {H : Hp} {t : Tq} {k : List PyData → Tq → Prop}, Rep K m B0 B e σ H t → wp e t k → ∀ R : It → Hp → Prop,
    (∀ J ds H2 t', Xt m.pl H H2 → m.ok H2 t' → k ds t' → Sq K J B H2 ds → R J H2) → ti σ H R
noncomputable def unT : PyData → (List PyData → Prop) → Prop
  | .tuple ds, k => k ds
  | _, _ => False
noncomputable def unL : PyData → (List PyData → Prop) → Prop
  | .list ds, k => k ds
  | _, _ => False
theorem unT_of {d : PyData} {k : List PyData → Prop} (h : unT d k) : ∃ b, d = .tuple b ∧ k b := by
  cases d with
  | tuple b => exact ⟨b, rfl, h⟩
  | _ => exact h.elim
theorem unL_of {d : PyData} {k : List PyData → Prop} (h : unL d k) : ∃ b, d = .list b ∧ k b := by
  cases d with
  | list b => exact ⟨b, rfl, h⟩
  | _ => exact h.elim
section
variable {K : PySem.W.Frag} {B B' : Addr → Prop} {H H' : Hp} {a : Addr} {xs : List V} {ds : List PyData}
theorem sqT_on (na : ¬ B a ∨ KT K a xs) (s : SqT K H a xs) (g : Gw B B' H) (x : Xt B' H H') : SqT K H' a xs := by
  rcases na with na | na
  · rcases sqT_alive s with z | z
    · exact .inr z
    · exact x.sqT (fun w => (g.fr a w).elim na z) s
  · exact .inr na
theorem sqL_on (na : ¬ B a) (s : H a = some (.lst xs)) (g : Gw B B' H) (x : Xt B' H H') : H' a = some (.lst xs) :=
  x.kp _ _ (fun w => (g.fr a w).elim na fun z => by rw [s] at z; cases z) s
theorem sq_tup (na : ¬ B a ∨ KT K a xs) (s : SqT K H a xs) (t : RpA K B H ds xs) : Sq K (Itt K a) B H ds := by
  refine ⟨fun i H' B' hi g x => ?_, fun H' B' g x => ⟨xs, sqT_on na s g x, by rw [t.length]; exact Nat.le_refl _⟩, fun i d y H' H3 B' hd g x z => ?_⟩
  · obtain ⟨y, hy, _⟩ := t.get (i := i) (d := ds[i]) (List.getElem?_eq_getElem hi)
    exact ⟨xs, y, sqT_on na s g x, hy⟩
  · obtain ⟨rfl, z⟩ := z
    obtain ⟨y', hy, ry⟩ := t.get hd
    have e := z xs (sqT_on na s g x)
    rw [hy] at e
    cases e
    exact ⟨Same.refl _, (Rp.grow g _ _ ry).up x⟩
theorem sq_lst (na : ¬ B a) (s : H a = some (.lst xs)) (t : RpA K B H ds xs) : Sq K (Itl K a) B H ds := by
  refine ⟨fun i H' B' hi g x => ?_, fun H' B' g x => ⟨xs, SqL.of (sqL_on na s g x), by rw [t.length]; exact Nat.le_refl _⟩, fun i d y H' H3 B' hd g x z => ?_⟩
  · obtain ⟨y, hy, _⟩ := t.get (i := i) (d := ds[i]) (List.getElem?_eq_getElem hi)
    exact ⟨xs, y, SqL.of (sqL_on na s g x), hy⟩
  · obtain ⟨rfl, z⟩ := z
    obtain ⟨y', hy, ry⟩ := t.get hd
    have e := z xs (SqL.of (sqL_on na s g x))
    rw [hy] at e
    cases e
    exact ⟨Same.refl _, (Rp.grow g _ _ ry).up x⟩
theorem sq_rng {lo : Int} {n : Nat} : Sq K (Itr lo n) B H ((List.range n).map fun i : Nat => .int (lo + (i : Int))) := by
  refine ⟨fun i H' B' hi g x => ?_, fun H' B' g x => ?_, fun i d y H' H3 B' hd g x z => ?_⟩
  · rw [List.length_map, List.length_range] at hi
    exact hi
  · show n ≤ _
    rw [List.length_map, List.length_range]
    exact Nat.le_refl _
  · obtain ⟨rfl, rfl⟩ := z
    rw [List.getElem?_map] at hd
    cases q : (List.range n)[i]? with
    | none => rw [q] at hd; cases hd
    | some j =>
      rw [q] at hd
      obtain ⟨hi, e⟩ := List.getElem?_eq_some_iff.mp q
      rw [List.getElem_range] at e
      subst e
      cases hd
      exact ⟨Same.refl _, rp_int.mpr rfl⟩
end
section
variable {K : PySem.W.Frag}
noncomputable def AI.tup (a : AE K) : AI K := ⟨iTup K a.te, fun e t k => a.wp e t fun d t1 => unT d fun ds => k ds t1, fun {m B0 B e σ H t k} r h R q =>
  a.ok r h _ fun v d H1 t1 x1 k1 h1 r1 => by
    obtain ⟨ds, rfl, hk⟩ := unT_of h1
    obtain ⟨a, xs, rfl, na, s, t⟩ := rp_tup.mp r1
    exact ⟨a, rfl, ⟨_, s⟩, q _ ds H1 t1 x1 k1 hk (sq_tup na s t)⟩⟩
noncomputable def AI.lst (a : AE K) : AI K := ⟨iList K a.te, fun e t k => a.wp e t fun d t1 => unL d fun ds => k ds t1, fun {m B0 B e σ H t k} r h R q =>
  a.ok r h _ fun v d H1 t1 x1 k1 h1 r1 => by
    obtain ⟨ds, rfl, hk⟩ := unL_of h1
    obtain ⟨a, xs, rfl, na, s, t⟩ := rp_lst.mp r1
    exact ⟨a, rfl, ⟨_, SqL.of s⟩, q _ ds H1 t1 x1 k1 hk (sq_lst na s t)⟩⟩
noncomputable def rngD (lo hi : Int) : List PyData := (List.range (hi - lo).toNat).map fun i : Nat => .int (lo + (i : Int))
noncomputable def unI1 : List PyData → (Int → Prop) → Prop
  | [.int i], k => k i
  | _, _ => False
theorem unI1_of {ds : List PyData} {k : Int → Prop} (h : unI1 ds k) : ∃ i, ds = [.int i] ∧ k i := by
  unfold unI1 at h
  split at h
  · exact ⟨_, rfl, h⟩
  · exact h.elim
noncomputable def unI2 : List PyData → (Int → Int → Prop) → Prop
  | [.int i, .int j], k => k i j
  | _, _ => False
noncomputable def AI.rng (a : AA K) : AI K := ⟨iRng1 a.ta, fun e t k => a.wp e t fun ds t1 => unI1 ds fun n => (-(2 ^ 62) ≤ n ∧ n < 2 ^ 62) ∧ k (rngD 0 n) t1, fun {m B0 B e σ H t k} r h R q =>
  a.ok r h _ fun vs ds H1 t1 x1 k1 h1 r1 => by
    obtain ⟨n, rfl, hb, hk⟩ := unI1_of h1
    obtain rfl : vs = [.int n] := RpA.ints_inv (ns := [n]) r1
    refine ⟨n, rfl, hb.1, hb.2, q _ _ H1 t1 x1 k1 hk ?_⟩
    unfold rngD
    rw [Int.sub_zero]
    exact sq_rng⟩
noncomputable def unT1 : List PyData → (List PyData → Prop) → Prop
  | [.tuple ds], k => k ds
  | _, _ => False
structure AG (K : PySem.W.Frag) where
  tg : TG
  sl : List Nat
  wp : PyData → En → (En → Prop) → Prop
  ok : ∀ {m : Dck} {B0 B : Addr → Prop} {e : En} {σ : L2.St} {H : Hp} {t : Tq} {k : En → Prop} {d : PyData} {v : V}, Rep K m B0 B e σ H t → Rp K B H d v → wp d e k → ∀ Q : L2.St → Hp → Prop,
    (∀ e' σ', k e' → Rep K m B0 B e' σ' H t → σ'.length = σ.length → (∀ j : Nat, j ∉ sl → σ'[j]? = σ[j]?) → Q σ' H) → tg v σ H Q
structure AGs (K : PySem.W.Frag) where
  tg : TGs
  n : Nat
  sl : List Nat
  wp : List PyData → En → (En → Prop) → Prop
  ok : ∀ {m : Dck} {B0 B : Addr → Prop} {e : En} {σ : L2.St} {H : Hp} {t : Tq} {k : En → Prop} {ds : List PyData} {vs : List V}, Rep K m B0 B e σ H t → RpA K B H ds vs → wp ds e k → ds.length = n ∧ ∀ Q : L2.St → Hp → Prop,
    (∀ e' σ', k e' → Rep K m B0 B e' σ' H t → σ'.length = σ.length → (∀ j : Nat, j ∉ sl → σ'[j]? = σ[j]?) → Q σ' H) → tg vs σ H Q
noncomputable def AG.name (K : PySem.W.Frag) (i : Nat) : AG K := ⟨gName i, [i], fun d e k => k (e.set i (.dat d)), fun {m B0 B e σ H t k d v} r rv h Q q =>
  q _ _ h (r.set rv) (List.length_set) fun j hj => List.getElem?_set_ne (fun z => hj (by rw [z]; simp))⟩
noncomputable def AGs.nil (K : PySem.W.Frag) : AGs K := ⟨gNil, 0, [], fun ds e k => ds = [] ∧ k e, fun {m B0 B e σ H t k ds vs} r rv h => ⟨by rw [h.1]; rfl, fun Q q => by
  obtain ⟨rfl, hk⟩ := h
  exact ⟨rpa_nil.mp rv, q _ _ hk r rfl fun _ _ => rfl⟩⟩⟩
noncomputable def hdW : List PyData → (PyData → List PyData → Prop) → Prop
  | d :: ds, k => k d ds
  | [], _ => False
noncomputable def AGs.cons (i : Nat) (g : AGs K) : AGs K := ⟨gCons (gName i) g.tg, g.n + 1, i :: g.sl, fun ds e k => hdW ds fun d ds => g.wp ds (e.set i (.dat d)) k, fun {m B0 B e σ H t k ds vs} r rv h => by
  match ds, rv, h with
  | d :: ds, rv, h =>
    obtain ⟨v, ws, rfl, h1, h2⟩ := rpa_cons.mp rv
    obtain ⟨hn, hq⟩ := g.ok (r.set (i := i) h1) h2 h
    refine ⟨by rw [List.length_cons, hn], fun Q q => ⟨v, ws, rfl, hq Q fun e' σ' hk r' hl hj => ?_⟩⟩
    refine q e' σ' hk r' (by rw [hl, List.length_set]) fun j hn => ?_
    rw [hj j (fun z => hn (List.mem_cons_of_mem _ z)), List.getElem?_set_ne (fun z => hn (by rw [z]; simp))]⟩
noncomputable def AG.tup (g : AGs K) : AG K := ⟨gTup K g.n g.tg, g.sl, fun d e k => unT d fun ds => g.wp ds e k, fun {m B0 B e σ H t k d v} r rv h Q q => by
  obtain ⟨ds, rfl, h⟩ := unT_of h
  obtain ⟨a, xs, rfl, na, s, t⟩ := rp_tup.mp rv
  obtain ⟨hn, hq⟩ := g.ok r t h
  exact ⟨a, xs, rfl, s, by rw [← t.length, hn], hq Q q⟩⟩
noncomputable def wipeE (e : En) : List Nat → En
  | [] => e
  | v :: vs => (wipeE e vs).set v .un
theorem Rep.wipe {m : Dck} {B0 B : Addr → Prop} {e : En} {σ : L2.St} {H : Hp} {t : Tq} (r : Rep K m B0 B e σ H t) : ∀ vs : List Nat, Rep K m B0 B (wipeE e vs) (L2.wipe σ vs) H t
  | [] => r
  | v :: vs => by
    unfold wipeE L2.wipe
    exact (Rep.wipe r vs).drop
theorem wipe_eq {σ σ' : L2.St} : ∀ {vs : List Nat}, σ'.length = σ.length → (∀ j : Nat, j ∉ vs → σ'[j]? = σ[j]?) → L2.wipe σ' vs = L2.wipe σ vs := by
  have key : ∀ (vs : List Nat) (τ : L2.St) (j : Nat), (L2.wipe τ vs)[j]? = if j ∈ vs ∧ j < τ.length then some none else τ[j]? := by
    intro vs
    induction vs with
    | nil => intro τ j; simp [L2.wipe]
    | cons v vs ih =>
      intro τ j
      unfold L2.wipe
      by_cases e : v = j
      · subst e
        by_cases hl : v < τ.length
        · rw [List.getElem?_set_self (by rw [wipe_length]; exact hl), if_pos ⟨by simp, hl⟩]
        · rw [List.getElem?_eq_none (by rw [List.length_set, wipe_length]; omega), if_neg (fun z => hl z.2), List.getElem?_eq_none (by omega)]
      · rw [List.getElem?_set_ne e, ih]
        have : (j ∈ v :: vs) ↔ j ∈ vs := by simp [Ne.symm e]
        simp only [this]
  intro vs hl h
  apply List.ext_getElem?
  intro j
  rw [key, key, hl]
  by_cases hj : j ∈ vs
  · by_cases hlt : j < σ.length
    · rw [if_pos ⟨hj, hlt⟩, if_pos ⟨hj, hlt⟩]
    · rw [if_neg (fun z => hlt z.2), if_neg (fun z => hlt z.2), List.getElem?_eq_none (by omega), List.getElem?_eq_none (by omega)]
  · rw [if_neg (fun z => hj z.1), if_neg (fun z => hj z.1), h j hj]
theorem wipe_off {σ : L2.St} : ∀ {vs : List Nat} {j : Nat}, j ∉ vs → (L2.wipe σ vs)[j]? = σ[j]?
  | [], j, _ => rfl
  | v :: vs, j, h => by
    unfold L2.wipe
    rw [List.getElem?_set_ne (fun z => h (by rw [z]; simp)), wipe_off (fun z => h (List.mem_cons_of_mem _ z))]
structure AF (K : PySem.W.Frag) where
  te : TE
  wp : En → Tq → (List PyData → Tq → Prop) → Prop
  ok : ∀ {m : Dck} {B0 B : Addr → Prop} {e : En} {σ : L2.St} {H : Hp} {t : Tq} {k : List PyData → Tq → Prop}, Rep K m B0 B e σ H t → wp e t k → ∀ Q : VK,
    (∀ L ds vs H2 t', H L = none → Xt m.pl H H2 → m.ok H2 t' → k ds t' → H2 L = some (.lst vs) → RpA K (Bp B L) H2 ds vs → Q (.ref L) H2) → te σ H Q
noncomputable def AF.ae (a : AF K) : AE K := ⟨a.te, fun e t k => a.wp e t fun ds t1 => k (.list ds) t1, fun {m B0 B e σ H t k} r h Q q =>
  a.ok r h Q fun L ds vs H2 t' nL x k2 hk hL ra => q _ _ H2 t' x k2 hk (rp_lst.mpr ⟨L, vs, rfl, r.al.new nL, hL, RpA.less bp_up _ _ ra⟩)⟩
theorem none_back {m : Dck} {H H1 : Hp} {t : Tq} {L : Addr} (k : m.ok H t) (x : Xt m.pl H H1) (n : H1 L = none) : H L = none := by
  cases q : H L with
  | none => rfl
  | some o =>
    by_cases z : m.pl L
    · exact absurd n (x.al L z).ne
    · rw [x.kp L o z q] at n
      cases n
noncomputable def AF.lst (a : AA K) : AF K := ⟨tLst a.ta, fun e t k => a.wp e t fun ds t1 => ds.length ≤ 100000 ∧ k ds t1, fun {m B0 B e σ H t k} r h Q q =>
  a.ok r h _ fun vs ds H1 t1 x1 k1 h1 r1 => ⟨by rw [← r1.length]; exact Nat.le_trans h1.1 (by decide), fun p np => by
    have s := same_new (o := .lst vs) np
    have r2 := (r.up x1 k1)
    exact q p ds vs _ t1 (none_back r.ok x1 np) (x1.trans (m.xs k1 s)) (m.same k1 s) h1.2 upd_same ((RpA.grow (gw_new np) _ _ r1).up ⟨fun a o _ e => s a o e, al_new r2.al⟩)⟩⟩
/-- [a for g in it if c] -/
noncomputable def AF.lc (it : AI K) (g : AG K) (c : AT K) (a : AE K) (vs : List Nat) (hs : ∀ j ∈ g.sl, j ∈ vs) : AF K :=
  ⟨tLc it.ti g.tg c.tt a.te vs, fun e t k => it.wp e t fun ds t1 => ds.length ≤ 1000000 ∧ ∃ I : Nat → List PyData → Tq → Prop, I 0 [] t1 ∧
    (∀ (i : Nat) d acc t', ds[i]? = some d → I i acc t' → g.wp d (wipeE e vs) fun e2 => c.wp e2 t' fun b t3 => if b = true then a.wp e2 t3 fun x t4 => I (i + 1) (acc ++ [x]) t4 else I (i + 1) acc t3) ∧
    ∀ acc t', I ds.length acc t' → k acc t', fun {m B0 B e σ H t k} r h Q q => by
  refine it.ok r h _ fun J ds H1 t1 x1 k1 h1 sq => ?_
  obtain ⟨hl, I, i0, is, ie⟩ := h1
  intro L nL
  have r1 := r.up x1 k1
  have nB : ¬ B L := r1.al.new nL
  have nP : ¬ m.pl L := fun z => nB (r.pb L z)
  have gw : Gw B (Bp B L) H1 := gw_new nL
  refine ⟨fun i mm H' => mm = ds.length - i ∧ i ≤ ds.length ∧ ∃ acc ws t', I i acc t' ∧ Xt m.pl H1 H' ∧ m.ok H' t' ∧ H' L = some (.lst ws) ∧ RpA K (Bp B L) H' acc ws ∧ acc.length ≤ i, ⟨ds.length, by simp, Nat.zero_le _, [], [], t1, i0, m.xs k1 (same_new nL), m.same k1 (same_new nL), upd_same, RpA.nil, Nat.le_refl _⟩, ?_⟩
  rintro i mm H' ⟨rfl, hi, acc, ws, t', hI, x', k', hL, ra, hal⟩
  have rep := r1.under nL x' k' (by rw [hL]; first | exact trivial | simp)
  have xw : Xt (Bp B L) H1 H' := ⟨fun a u nb e => x'.kp a u (fun z => nb (.inl (r.pb a z))) e, rep.al⟩
  by_cases hlt : i < ds.length
  · refine .inr ⟨sq.go i H' _ hlt gw xw, fun H'' => ∃ acc ws t', I (i + 1) acc t' ∧ Xt m.pl H1 H'' ∧ m.ok H'' t' ∧ H'' L = some (.lst ws) ∧ RpA K (Bp B L) H'' acc ws ∧ acc.length ≤ i + 1, fun H'' p => ⟨ds.length - (i + 1), by omega, rfl, hlt, p⟩, fun x H3 y => ?_⟩
    obtain ⟨s3, rx⟩ := sq.yl i ds[i] x H' H3 _ (List.getElem?_eq_getElem hlt) gw xw y
    have rep3 := rep.same s3
    refine g.ok (rep3.wipe vs) rx (is i ds[i] acc t' (List.getElem?_eq_getElem hlt) hI) _ fun e2 σ2 hk2 rep4 hln hof => ⟨?_, ?_⟩
    · have e1 : L2.wipe σ2 vs = L2.wipe (L2.wipe σ vs) vs := wipe_eq hln fun j hj => hof j fun z => hj (hs j z)
      rw [e1]
      exact wipe_eq (wipe_length _ _) fun j hj => wipe_off hj
    · refine c.ok rep4 hk2 _ fun b H5 t5 x5 k5 h5 => ?_
      have rep5 := rep4.up x5 k5
      have x15 : Xt m.pl H1 H5 := (x'.trans (m.xs rep.ok s3)).trans x5
      have hL5 : H5 L = some (.lst ws) := x5.kp _ _ nP (s3 _ _ hL)
      have ra5 := (ra.up (Xt.of rep.al s3)).up (rep3.wd x5)
      cases b with
      | true =>
        rw [if_pos rfl] at h5 ⊢
        refine a.ok rep5 h5 _ fun z d H6 t6 x6 k6 h6 r6 => ?_
        have hL6 : H6 L = some (.lst ws) := x6.kp _ _ nP hL5
        have al6 := (rep5.up x6 k6).al
        have y6 : Xt (Bp B L) H6 (upd H6 L (.lst (ws ++ [z]))) := xt_put al6
        refine ⟨ws, hL6, ?_, acc ++ [d], ws ++ [z], t6, h6, ⟨fun b o nb e => ?_, fun b hb => ?_⟩, m.putV k6 nP (by rw [hL6]; exact trivial), upd_same, ?_, by rw [List.length_append]; show acc.length + 1 ≤ _; omega⟩
        · rw [← ra.length]
          exact Nat.lt_of_lt_of_le (show acc.length < 1000001 by omega) (by decide)
        · rw [upd_ne (ne_of_none e nL)]
          exact x6.kp b o nb (x15.kp b o nb e)
        · rw [upd_ne (fun w : b = L => nP (w ▸ hb))]
          exact x6.al b hb
        · exact RpA.append ((ra5.up (rep5.wd x6)).up y6) (.cons (r6.up y6) .nil)
      | false =>
        rw [if_neg (by decide)] at h5 ⊢
        exact ⟨acc, ws, t5, h5, x15, k5, hL5, ra5, by omega⟩
  · have e1 : i = ds.length := by omega
    subst e1
    exact .inl ⟨sq.st H' _ gw xw, q L acc ws H' t' (none_back r.ok x1 nL) (x1.trans x') k' (ie acc t' hI) hL ra⟩⟩
/-- list(x) -/
noncomputable def unS1 : List PyData → (List PyData → Prop) → Prop
  | [.tuple ds], k => k ds
  | [.list ds], k => k ds
  | _, _ => False
noncomputable def AF.list (a : AA K) : AF K := ⟨tCB (rLstU K) a.ta, fun e t k => a.wp e t fun ds t1 => unS1 ds fun es => k es t1, fun {m B0 B e σ H t k} r h Q q =>
  a.ok r h _ fun vs ds H1 t1 x1 k1 h1 r1 => by
    have r2 := (r.up x1 k1)
    have fin : ∀ (p : Addr) (es : List PyData) (ws : List V), H1 p = none → RpA K B H1 es ws → k es t1 → Q (.ref p) (upd H1 p (.lst ws)) := fun p es ws np re hk => by
      have s := same_new (o := .lst ws) np
      exact q p es ws _ t1 (none_back r.ok x1 np) (x1.trans (m.xs k1 s)) (m.same k1 s) hk upd_same ((RpA.grow (gw_new np) _ _ re).up ⟨fun a o _ e => s a o e, al_new r2.al⟩)
    unfold unS1 at h1
    split at h1
    · obtain ⟨v, w, rfl, rv, rw⟩ := rpa_cons.mp r1
      obtain rfl := rpa_nil.mp rw
      obtain ⟨b, xs, rfl, na, s, t⟩ := rp_tup.mp rv
      exact ⟨b, xs, rfl, .inr s, fun l nl => fin l _ xs nl t h1⟩
    · obtain ⟨v, w, rfl, rv, rw⟩ := rpa_cons.mp r1
      obtain rfl := rpa_nil.mp rw
      obtain ⟨b, xs, rfl, na, s, t⟩ := rp_lst.mp rv
      exact ⟨b, xs, rfl, .inl (SqL.of s), fun l nl => fin l _ xs nl t h1⟩
    · exact h1.elim⟩
end
end CG
namespace CG
open PySem PySem.Spec PyProof.Rows L2
section
variable {K : PySem.W.Frag}
noncomputable def addF : PyData → PyData → (PyData → Prop) → Prop
  | .int i, .int j, k => k (.int (i + j))
  | .tuple ds, .tuple es, k => ds.length + es.length ≤ 100000 ∧ k (.tuple (ds ++ es))
  | .list ds, .list es, k => ds.length + es.length ≤ 100000 ∧ k (.list (ds ++ es))
  | _, _, _ => False
noncomputable def aAdd (K : PySem.W.Frag) : A2 K := ⟨rAddU K, addF, fun {B a b k} h => by
  unfold addF at h
  split at h
  · exact ⟨_, h, rd_add⟩
  · exact ⟨_, h.2, rd_catT h.1⟩
  · exact ⟨_, h.2, rd_catL h.1⟩
  · exact h.elim⟩
noncomputable def intF (C : Int → Int → Prop) (g : Int → Int → Int) : PyData → PyData → (PyData → Prop) → Prop
  | .int i, .int j, k => C i j ∧ k (.int (g i j))
  | _, _, _ => False
noncomputable def intF0 (g : Int → Int → Int) : PyData → PyData → (PyData → Prop) → Prop
  | .int i, .int j, k => k (.int (g i j))
  | _, _, _ => False
noncomputable def boolF0 (g : Int → Int → Bool) : PyData → PyData → (PyData → Prop) → Prop
  | .int i, .int j, k => k (.bool (g i j))
  | _, _, _ => False
noncomputable def aI (K : PySem.W.Frag) (C : Int → Int → Prop) (g : Int → Int → Int) : A2 K := ⟨rI C fun i j => .int (g i j), intF C g, fun {B a b k} h => by
  unfold intF at h
  split at h
  · exact ⟨_, h.2, rd_I h.1⟩
  · exact h.elim⟩
noncomputable def aI0 (K : PySem.W.Frag) (g : Int → Int → Int) : A2 K := ⟨rI0 fun i j => .int (g i j), intF0 g, fun {B a b k} h => by
  unfold intF0 at h
  split at h
  · exact ⟨_, h, rd_I0⟩
  · exact h.elim⟩
noncomputable def aB0 (K : PySem.W.Frag) (g : Int → Int → Bool) : A2 K := ⟨rI0 fun i j => .bl (g i j), boolF0 g, fun {B a b k} h => by
  unfold boolF0 at h
  split at h
  · exact ⟨_, h, rd_B0⟩
  · exact h.elim⟩
noncomputable abbrev aSub (K : PySem.W.Frag) : A2 K := aI0 K fun i j => i - j
noncomputable abbrev aMod (K : PySem.W.Frag) : A2 K := aI K (fun _ j => 0 < j) fun i j => i % j
noncomputable abbrev aPow (K : PySem.W.Frag) : A2 K := aI K CPow fun i j => i ^ j.toNat
noncomputable abbrev aGt (K : PySem.W.Frag) : A2 K := aB0 K fun i j => decide (j < i)
noncomputable abbrev aGe (K : PySem.W.Frag) : A2 K := aB0 K fun i j => decide (j ≤ i)
noncomputable def mulF : PyData → PyData → (PyData → Prop) → Prop
  | .int i, .int j, k => CMul i j ∧ k (.int (i * j))
  | .tuple ds, .int n, k => (ds ≠ [] ∧ 2 ≤ n ∧ n ≤ 1000 ∧ ds.length ≤ 1000) ∧ k (.tuple (List.replicate n.toNat ds).flatten)
  | .list ds, .int n, k => (0 ≤ n ∧ n ≤ 1000 ∧ ds.length ≤ 1000) ∧ k (.list (List.replicate n.toNat ds).flatten)
  | _, _, _ => False
noncomputable def aMul (K : PySem.W.Frag) : A2 K := ⟨rMulU K, mulF, fun {B a b k} h => by
  unfold mulF at h
  split at h
  · exact ⟨_, h.2, rd_mulI h.1⟩
  · exact ⟨_, h.2, rd_repT h.1.1 h.1.2.1 h.1.2.2.1 h.1.2.2.2⟩
  · exact ⟨_, h.2, rd_repL h.1.1 h.1.2.1 h.1.2.2⟩
  · exact h.elim⟩
noncomputable def Cmp (a b : PyData) : Prop := (a.hasDict = false ∧ SeqAt.shaped a = true) ∧ b.hasDict = false ∧ SeqAt.shaped b = true
noncomputable def eqF : PyData → PyData → (PyData → Prop) → Prop
  | .int i, .int j, k => k (.bool (decide (i = j)))
  | .str i, .str j, k => k (.bool (decide (i = j)))
  | a, b, k => Cmp a b ∧ k (.bool (PyData.eqv a b))
noncomputable def neF : PyData → PyData → (PyData → Prop) → Prop
  | .int i, .int j, k => k (.bool (!decide (i = j)))
  | .str i, .str j, k => k (.bool (!decide (i = j)))
  | a, b, k => Cmp a b ∧ k (.bool (!PyData.eqv a b))
noncomputable def aEq (K : PySem.W.Frag) : A2 K := ⟨rEqU K, eqF, fun {B a b k} h => by
  unfold eqF at h
  split at h
  · exact ⟨_, h, fun H1 x y al hx hy Q q => .inl (rd_eqI H1 x y al hx hy Q q)⟩
  · exact ⟨_, h, fun H1 x y al hx hy Q q => .inl (rd_eqS H1 x y al hx hy Q q)⟩
  · exact ⟨_, h.2, rd_eqD h.1.1.1 h.1.2.1 h.1.1.2 h.1.2.2⟩⟩
noncomputable def aNe (K : PySem.W.Frag) : A2 K := ⟨rNeU K, neF, fun {B a b k} h => by
  unfold neF at h
  split at h
  · exact ⟨_, h, fun H1 x y al hx hy Q q => .inl (rd_neI H1 x y al hx hy Q q)⟩
  · exact ⟨_, h, fun H1 x y al hx hy Q q => .inl (rd_neS H1 x y al hx hy Q q)⟩
  · exact ⟨_, h.2, rd_neD h.1.1.1 h.1.2.1 h.1.1.2 h.1.2.2⟩⟩
noncomputable def isNF : PyData → PyData → (PyData → Prop) → Prop
  | a, .none, k => k (.bool (isNone a))
  | _, _, _ => False
noncomputable def notNF : PyData → PyData → (PyData → Prop) → Prop
  | a, .none, k => k (.bool (!isNone a))
  | _, _, _ => False
noncomputable def aIsN (K : PySem.W.Frag) : A2 K := ⟨rIsNU, isNF, fun {B a b k} h => by
  unfold isNF at h
  split at h
  · exact ⟨_, h, rd_isN⟩
  · exact h.elim⟩
noncomputable def rNotNU : R2 := fun x y H Q => y = .non ∧ Q (.bl (!decide (x = .non))) H
theorem rd_notN {B : Addr → Prop} {d : PyData} : RvD K B rNotNU d .none (.bool (!isNone d)) := fun H1 x y al hx hy Q q => by
  refine ⟨rp_non.mp hy, ?_⟩
  refine (rd_isN (K := K) (B := B) (d := d) H1 x y al hx hy (fun v H' => ∀ b, v = .bl b → Q (.bl (!b)) H') fun v H2 s r b e => ?_).2 _ rfl
  obtain rfl : isNone d = b := by
    have := rp_bl.mp r
    rw [e] at this
    exact (V.bl.inj this).symm
  exact q _ H2 s (rp_bl.mpr rfl)
noncomputable def aNotN (K : PySem.W.Frag) : A2 K := ⟨rNotNU, notNF, fun {B a b k} h => by
  unfold notNF at h
  split at h
  · exact ⟨_, h, rd_notN⟩
  · exact h.elim⟩
/-- a place of a list, tuple -/
noncomputable def atW (ds : List PyData) (i : Int) (k : PyData → Prop) : Prop := ∃ d, atI ds i = some d ∧ k d
noncomputable def ixF : PyData → PyData → (PyData → Prop) → Prop
  | .tuple ds, .int i, k => atW ds i k
  | .list ds, .int i, k => atW ds i k
  | _, _, _ => False
noncomputable def aIx (K : PySem.W.Frag) : A2 K := ⟨rIx K, ixF, fun {B a b k} h => by
  unfold ixF at h
  split at h
  · obtain ⟨d, e, hk⟩ := h
    exact ⟨d, hk, rd_ixT e⟩
  · obtain ⟨d, e, hk⟩ := h
    exact ⟨d, hk, rd_ixL e⟩
  · exact h.elim⟩
noncomputable def negF : PyData → (PyData → Prop) → Prop
  | .int i, k => k (.int (-i))
  | _, _ => False
noncomputable def aNeg (K : PySem.W.Frag) : A1 K := ⟨rU fun i => .int (-i), negF, fun {B a k} h => by
  unfold negF at h
  split at h
  · exact ⟨_, h, ru_neg⟩
  · exact h.elim⟩
noncomputable def lenF : List PyData → (PyData → Prop) → Prop
  | [.tuple ds], k => k (.int ds.length)
  | [.list ds], k => k (.int ds.length)
  | _, _ => False
noncomputable def aLen (K : PySem.W.Frag) : AC K := ⟨rLenU K, lenF, fun {B as k} h => by
  unfold lenF at h
  split at h
  · exact ⟨_, h, rc_lenT⟩
  · exact ⟨_, h, rc_lenL⟩
  · exact h.elim⟩
noncomputable def reprF : List PyData → (PyData → Prop) → Prop
  | [d], k => Shx d ∧ k (.str d.shown)
  | _, _ => False
noncomputable def aRepr (K : PySem.W.Frag) : AC K := ⟨rRepr K, reprF, fun {B as k} h => by
  unfold reprF at h
  split at h
  · exact ⟨_, h.2, rc_reprX h.1⟩
  · exact h.elim⟩
noncomputable def twoF (g : Int → Int → Int) : List PyData → (PyData → Prop) → Prop
  | [.int i, .int j], k => k (.int (g i j))
  | _, _ => False
noncomputable def aMin (K : PySem.W.Frag) : AC K := ⟨rMinU, twoF fun i j => if j < i then j else i, fun {B as k} h => by
  unfold twoF at h
  split at h
  · exact ⟨_, h, rc_min⟩
  · exact h.elim⟩
noncomputable def aMax (K : PySem.W.Frag) : AC K := ⟨rMaxU, twoF fun i j => if j > i then j else i, fun {B as k} h => by
  unfold twoF at h
  split at h
  · exact ⟨_, h, rc_max⟩
  · exact h.elim⟩
noncomputable def intBF : List PyData → (PyData → Prop) → Prop
  | [.bool b], k => k (.int (if b then 1 else 0))
  | _, _ => False
noncomputable def aInt (K : PySem.W.Frag) : AC K := ⟨rIntU, intBF, fun {B as k} h => by
  unfold intBF at h
  split at h
  · exact ⟨_, h, rc_intB⟩
  · exact h.elim⟩
noncomputable def tupF : List PyData → (PyData → Prop) → Prop
  | [.tuple ds], k => k (.tuple ds)
  | [.list ds], k => k (.tuple ds)
  | _, _ => False
noncomputable def aTup (K : PySem.W.Frag) : AC K := ⟨rTupU K, tupF, fun {B as k} h => by
  unfold tupF at h
  split at h
  · exact ⟨_, h, rc_tupT⟩
  · exact ⟨_, h, rc_tupL⟩
  · exact h.elim⟩
noncomputable def slF : PyData → Option Int → Option Int → (PyData → Prop) → Prop
  | .tuple ds, lo, hi, k => k (.tuple (cutD ds lo hi))
  | .list ds, lo, hi, k => k (.list (cutD ds lo hi))
  | _, _, _, _ => False
noncomputable def AE.sl (a : AE K) (lo hi : AO K) : AE K := ⟨tSl (rSlU K) a.te lo.tO hi.tO, fun e t k => a.wp e t fun d t1 => lo.wp e t1 fun l t2 => hi.wp e t2 fun u t3 => slF d l u fun z => k z t3, fun {m B0 B e σ H t k} r h Q q =>
  a.ok r h _ fun v d H1 t1 x1 k1 h1 r1 => lo.ok (r.up x1 k1) h1 _ fun l H2 t2 x2 k2 h2 => hi.ok ((r.up x1 k1).up x2 k2) h2 _ fun u H3 t3 x3 k3 h3 => by
    have s1 := r.up x1 k1
    have s2 := s1.up x2 k2
    have s3 := s2.up x3 k3
    have r3 := (r1.up (s1.wd x2)).up (s2.wd x3)
    have x13 := x1.trans (x2.trans x3)
    unfold slF at h3
    split at h3
    · obtain ⟨a, xs, rfl, na, s, t⟩ := rp_tup.mp r3
      refine .inr ⟨a, xs, rfl, s, fun f => ?_, fun _ p np => ?_⟩
      · rw [← t.length] at f
        rw [cutD_full f.1 f.2] at h3
        exact q _ _ H3 t3 x13 k3 h3 r3
      · exact q (.ref p) _ _ t3 (x13.trans (m.xs k3 (same_new np))) (m.same k3 (same_new np)) h3 (rp_tup.mpr ⟨p, _, rfl, .inl (s3.al.new np), SqT.of upd_same, (RpA.cut t).up (Xt.of s3.al (same_new np))⟩)
    · obtain ⟨a, xs, rfl, na, s, t⟩ := rp_lst.mp r3
      refine .inl ⟨a, xs, rfl, SqL.of s, fun p np => ?_⟩
      exact q (.ref p) _ _ t3 (x13.trans (m.xs k3 (same_new np))) (m.same k3 (same_new np)) h3 (rp_lst.mpr ⟨p, _, rfl, s3.al.new np, upd_same, (RpA.cut t).up (Xt.of s3.al (same_new np))⟩)
    · exact h3.elim⟩
noncomputable def viewE (e : En) : En := e.map fun x => match x with
  | .own ds => .dat (.list ds)
  | x => x
theorem Rep.view {m : Dck} {B0 B : Addr → Prop} {e : En} {σ : L2.St} {H : Hp} {t : Tq} (r : Rep K m B0 B e σ H t) : Rep K m m.pl m.pl (viewE e) σ H t := by
  refine ⟨m.al r.ok, fun _ h => h, fun _ h => h, r.ok, by unfold viewE; rw [List.length_map]; exact r.ln, fun i => ?_, fun i j p ds es h1 => ?_⟩
  · have s := r.sl i
    have e1 : (viewE e)[i]? = (e[i]?).map (fun x => match x with | .own ds => .dat (.list ds) | x => x) := by unfold viewE; rw [List.getElem?_map]
    rw [e1]
    revert s
    generalize e[i]? = y
    generalize σ[i]? = z
    intro h
    match y, h with
    | some (.dat d), h =>
      obtain ⟨v, rfl, r2⟩ := h
      exact ⟨v, rfl, Rp.less r.pb _ _ r2⟩
    | some (.own ds), h =>
      obtain ⟨p, vs, rfl, b, b0, np, hp, r2⟩ := h
      exact ⟨.ref p, rfl, rp_lst.mpr ⟨p, vs, rfl, np, hp, RpA.less r.pb _ _ r2⟩⟩
    | some (.deck M), h => exact h
    | some (.ptr _ M), h => exact h
    | some (.fn _ _ _ _ _), h => exact ⟨h.1, Rp.less r.pb _ _ h.2⟩
    | some .un, _ => trivial
    | none, _ => trivial
  · exfalso
    unfold viewE at h1
    rw [List.getElem?_map] at h1
    cases q : e[i]? with
    | none => rw [q] at h1; cases h1
    | some x => rw [q] at h1; cases x <;> cases h1
noncomputable def flat : PyData → Bool
  | .none => true
  | .bool _ => true
  | .int _ => true
  | .str _ => true
  | _ => false
theorem rp_flat {B B' : Addr → Prop} {H : Hp} {d : PyData} {v : V} (h : flat d = true) (r : Rp K B H d v) : Rp K B' H d v := by
  cases d with
  | none => exact rp_non.mpr (rp_non.mp r)
  | bool b => exact rp_bl.mpr (rp_bl.mp r)
  | int i => exact rp_int.mpr (rp_int.mp r)
  | str s => exact rp_str.mpr (rp_str.mp r)
  | _ => cases h
/-- a reading of flat data, lists of one's own among what is read -/
noncomputable def AE.view (a : AE K) : AE K := ⟨a.te, fun e t k => a.wp (viewE e) t fun d t1 => flat d = true ∧ k d t1, fun {m B0 B e σ H t k} r h Q q =>
  a.ok r.view h _ fun v d H1 t1 x1 k1 h1 r1 => q v d H1 t1 x1 k1 h1.2 (rp_flat h1.1 r1)⟩
noncomputable def AT.view (a : AT K) : AT K := ⟨a.tt, fun e t k => a.wp (viewE e) t k, fun {m B0 B e σ H t k} r h Q q => a.ok r.view h _ q⟩
noncomputable def owS : Option Sl → (List PyData → Prop) → Prop
  | some (.own ds), k => k ds
  | _, _ => False
theorem Rep.own {m : Dck} {B0 B : Addr → Prop} {e : En} {σ : L2.St} {H : Hp} {t : Tq} {i : Nat} {k : List PyData → Prop} (r : Rep K m B0 B e σ H t) (h : owS e[i]? k) :
    ∃ ds p vs, e[i]? = some (.own ds) ∧ σ[i]? = some (some (.ref p)) ∧ B p ∧ ¬ B0 p ∧ ¬ m.pl p ∧ H p = some (.lst vs) ∧ RpA K B H ds vs ∧ k ds := by
  have s := r.sl i
  cases q : e[i]? with
  | none => rw [q] at h; exact h.elim
  | some x =>
    rw [q] at h s
    cases x with
    | own ds =>
      obtain ⟨p, vs, e1, b, b0, np, hp, r1⟩ := s
      exact ⟨ds, p, vs, rfl, e1, b, b0, np, hp, r1, h⟩
    | un => exact h.elim
    | deck ds => exact h.elim
    | ptr _ _ => exact h.elim
    | fn _ _ _ _ _ => exact h.elim
    | dat M => exact h.elim
/-- tuple(x) -/
noncomputable def AE.ownTup (K : PySem.W.Frag) (i : Nat) : AE K := ⟨tCB (rTupU K) (tCons (tVar i) tNil), fun e t k => owS e[i]? fun ds => k (.tuple ds) t, fun {m B0 B e σ H t k} r h Q q => by
  obtain ⟨ds, p, vs, e1, e2, _, _, np, hp, ra, h⟩ := r.own h
  refine ⟨.ref p, e2, p, vs, rfl, .inl ⟨SqL.of hp, fun l nl => ?_⟩⟩
  have s := same_new (o := .tup vs) nl
  exact q _ _ _ t (m.xs r.ok s) (m.same r.ok s) h (rp_tup.mpr ⟨l, vs, rfl, .inl (r.al.new nl), SqT.of upd_same, ra.up (Xt.of r.al s)⟩)⟩
structure Kn where
  nx : En → Tq → Prop
  rt : PK
  bk : En → Tq → Prop := fun _ _ => False
  ct : En → Tq → Prop := fun _ _ => False
/-- from the def's start (B0, H0) and from the loop's (B1, H1) to here -/
structure Fr (m : Dck) (B0 : Addr → Prop) (H0 : Hp) (B1 : Addr → Prop) (H1 : Hp) (B : Addr → Prop) (H : Hp) : Prop where
  g0 : Gw B0 B H0
  x0 : Xt m.pl H0 H
  f1 : ∀ a, B a → B1 a ∨ H1 a = none
  x1 : Xt B1 H1 H
structure Cn (K : PySem.W.Frag) (m : Dck) (B0 : Addr → Prop) (H0 : Hp) (B1 : Addr → Prop) (H1 : Hp) (k : Kn) (Dd : Ends) : Prop where
  nx : ∀ {B e σ H t}, Fr m B0 H0 B1 H1 B H → Rep K m B0 B e σ H t → k.nx e t → Dd.nx σ H
  bk : ∀ {B e σ H t}, Fr m B0 H0 B1 H1 B H → Rep K m B0 B e σ H t → k.bk e t → Dd.bk σ H
  ct : ∀ {B e σ H t}, Fr m B0 H0 B1 H1 B H → Rep K m B0 B e σ H t → k.ct e t → Dd.ct σ H
  rt : ∀ {v d H t}, Xt m.pl H0 H → m.ok H t → k.rt d t → Rp K B0 H d v → Dd.rt v H
structure AS (K : PySem.W.Frag) where
  ts : TS
  wp : En → Tq → Kn → Prop
  ok : ∀ {m : Dck} {B0 B1 : Addr → Prop} {H0 H1 : Hp} {Dd : Ends} {k : Kn}, Cn K m B0 H0 B1 H1 k Dd → ∀ {B : Addr → Prop} {e : En} {σ : L2.St} {H : Hp} {t : Tq}, Fr m B0 H0 B1 H1 B H → Rep K m B0 B e σ H t → wp e t k → ts Dd σ H
end
section
variable {K : PySem.W.Frag} {m : Dck} {B0 B1 B B' : Addr → Prop} {H0 H1 H H2 : Hp} {e : En} {σ : L2.St} {t t' : Tq} {L p : Addr} {i : Nat}
theorem Gw.refl : Gw B B H := ⟨fun _ h => h, fun _ h => .inl h⟩
theorem Fr.step (f : Fr m B0 H0 B1 H1 B H) (r : Rep K m B0 B e σ H t) (x : Xt m.pl H H2) : Fr m B0 H0 B1 H1 B H2 := by
  refine ⟨f.g0, f.x0.trans x, f.f1, ⟨fun a o nb z => x.kp a o (fun w => (f.f1 a (r.pb a w)).elim nb fun u => by rw [u] at z; cases z) (f.x1.kp a o nb z), fun a h => ?_⟩⟩
  by_cases w : m.pl a
  · exact x.al a w
  · cases q : H a with
    | none => exact absurd q (f.x1.al a h).ne
    | some o => have zz := f.x1.al a h; rw [q] at zz; rw [x.kp a o w q]; exact zz
theorem Fr.put (f : Fr m B0 H0 B1 H1 B H) (r : Rep K m B0 B e σ H t) (b : B p) (nb0 : ¬ B0 p) (np : ¬ m.pl p) {o : List V} : Fr m B0 H0 B1 H1 B (upd H p (.lst o)) := by
  have h0 : H0 p = none := (f.g0.fr p b).elim (fun z => absurd z nb0) id
  refine ⟨f.g0, ⟨fun a u nb z => ?_, fun a h => ?_⟩, f.f1, ⟨fun a u nb z => ?_, fun a h => ?_⟩⟩
  · rw [upd_ne (ne_of_none z h0)]
    exact f.x0.kp a u nb z
  · rw [upd_ne (fun w : a = p => np (w ▸ h))]
    exact f.x0.al a h
  · have : a ≠ p := fun w => (f.f1 p b).elim (fun u => nb (w ▸ u)) fun u => by rw [w, u] at z; cases z
    rw [upd_ne this]
    exact f.x1.kp a u nb z
  · by_cases w : a = p
    · rw [w, upd_same]; first | exact trivial | simp
    · rw [upd_ne w]
      exact f.x1.al a h
theorem Fr.new (f : Fr m B0 H0 B1 H1 B H) (r : Rep K m B0 B e σ H t) (n : H L = none) (x : Xt m.pl H H2) : Fr m B0 H0 B1 H1 (Bp B L) H2 := by
  have s := f.step r x
  have h0 : H0 L = none := by
    cases q : H0 L with
    | none => rfl
    | some o =>
      by_cases z : m.pl L
      · exact absurd n (f.x0.al L z).ne
      · rw [f.x0.kp L o z q] at n
        cases n
  have h1 : H1 L = none := by
    cases q : H1 L with
    | none => rfl
    | some o =>
      by_cases z : B1 L
      · exact absurd n (f.x1.al L z).ne
      · rw [f.x1.kp L o z q] at n
        cases n
  exact ⟨⟨fun a h => .inl (s.g0.up a h), fun a h => h.elim (s.g0.fr a) fun z => .inr (z ▸ h0)⟩, s.x0, fun a h => h.elim (s.f1 a) fun z => .inr (z ▸ h1), s.x1⟩
/-- the loop's frame ends -/
theorem Fr.comp (f : Fr m B0 H0 B1 H1 B H) (g : Fr m B0 H0 B H B' H2) : Fr m B0 H0 B1 H1 B' H2 := by
  refine ⟨g.g0, g.x0, fun a h => ?_, ⟨fun a o nb z => ?_, fun a h => ?_⟩⟩
  · rcases g.f1 a h with z | z
    · exact f.f1 a z
    · cases q : H1 a with
      | none => exact .inr rfl
      | some o =>
        by_cases w : B1 a
        · exact .inl w
        · rw [f.x1.kp a o w q] at z
          cases z
  · exact g.x1.kp a o (fun w => (f.f1 a w).elim nb fun u => by rw [u] at z; cases z) (f.x1.kp a o nb z)
  · by_cases w : B a
    · exact g.x1.al a w
    · cases q : H a with
      | none => exact absurd q (f.x1.al a h).ne
      | some o => have zz := f.x1.al a h; rw [q] at zz; rw [g.x1.kp a o w q]; exact zz
/-- the frame at a loop's start -/
theorem Fr.here (f : Fr m B0 H0 B1 H1 B H) (r : Rep K m B0 B e σ H t) : Fr m B0 H0 B H B H := ⟨f.g0, f.x0, fun _ h => .inl h, Xt.refl r.al⟩
/-- what is read behind the loop's start -/
theorem Fr.sq {J : It} {ds : List PyData} (f : Fr m B0 H0 B1 H1 B H) (r : Rep K m B0 B e σ H t) (s : Sq K J B1 H1 ds) : (∀ i, i < ds.length → J.go i H) ∧ J.stop ds.length H ∧
    ∀ (i : Nat) d x H3, ds[i]? = some d → J.yld i H x H3 → Same H H3 ∧ Rp K B H3 d x := by
  have g : Gw B1 (fun a => B1 a ∨ B a) H1 := ⟨fun _ h => .inl h, fun a h => h.elim .inl (f.f1 a)⟩
  have x : Xt (fun a => B1 a ∨ B a) H1 H := ⟨fun a o nb z => f.x1.kp a o (fun w => nb (.inl w)) z, fun a h => h.elim (f.x1.al a) (r.al a)⟩
  refine ⟨fun i hi => s.go i H _ hi g x, s.st H _ g x, fun i d y H3 hd hy => ?_⟩
  obtain ⟨s3, ry⟩ := s.yl i d y H H3 _ hd g x hy
  exact ⟨s3, Rp.less (fun a h => .inr h) _ _ ry⟩
theorem Fr.less (f : Fr m B0 H0 B1 H1 B H) (h : ∀ a, B' a → B a) (h0 : ∀ a, B0 a → B' a) : Fr m B0 H0 B1 H1 B' H :=
  ⟨⟨h0, fun a z => f.g0.fr a (h a z)⟩, f.x0, fun a z => f.f1 a (h a z), f.x1⟩
/-- a list of one's own is put into a slot -/
theorem Rep.setOwn {ds : List PyData} {vs : List V} (r : Rep K m B0 B e σ H t) (n : H L = none) (x : Xt m.pl H H2) (k : m.ok H2 t') (hL : H2 L = some (.lst vs)) (ra : RpA K (Bp B L) H2 ds vs) :
    Rep K m B0 (Bp B L) (e.set i (.own ds)) (σ.set i (some (.ref L))) H2 t' := by
  have r2 := r.under n x k (by rw [hL]; first | exact trivial | simp)
  have nB : ¬ B L := r.al.new n
  have nP : ¬ m.pl L := fun z => nB (r.pb L z)
  have alone : ∀ (j : Nat) (ds : List PyData), e[j]? = some (.own ds) → σ[j]? ≠ some (some (.ref L)) := fun j es h z => by
    have s := r.sl j
    rw [h] at s
    obtain ⟨p, vs, e1, b, _⟩ := s
    rw [e1] at z
    cases z
    exact nB b
  have self : ∀ (j : Nat), i = j → ∀ {x : Sl}, (e.set i x)[j]? = some x ∨ (e.set i x)[j]? = none := fun j z x => by
    subst z
    by_cases hl : i < e.length
    · exact .inl (List.getElem?_set_self hl)
    · exact .inr (List.getElem?_eq_none (by rw [List.length_set]; omega))
  refine ⟨r2.al, r2.pb, r2.b0, k, by rw [List.length_set, List.length_set]; exact r2.ln, fun j => ?_, fun a b p ds1 es h1 h2 h3 h4 => ?_⟩
  · by_cases z : i = j
    · subst z
      by_cases hl : i < e.length
      · rw [List.getElem?_set_self hl, List.getElem?_set_self (by rw [← r.ln]; exact hl)]
        exact ⟨L, vs, rfl, .inr rfl, fun z => nB (r.b0 L z), nP, hL, ra⟩
      · rw [List.getElem?_eq_none (by rw [List.length_set]; omega)]
        trivial
    · rw [List.getElem?_set_ne z, List.getElem?_set_ne z]
      exact r2.sl j
  · have hit : ∀ (c : Nat) (q : Addr), i = c → (σ.set i (some (.ref L)))[c]? = some (some (.ref q)) → q = L := fun c q z w => by
      subst z
      by_cases hl : i < σ.length
      · rw [List.getElem?_set_self hl] at w
        cases w
        rfl
      · rw [List.getElem?_eq_none (by rw [List.length_set]; omega)] at w
        cases w
    by_cases za : i = a
    · by_cases zb : i = b
      · exact za.symm.trans zb
      · have := hit a p za h3
        subst this
        rw [List.getElem?_set_ne zb] at h2 h4
        exact absurd h4 (alone b es h2)
    · by_cases zb : i = b
      · have := hit b p zb h4
        subst this
        rw [List.getElem?_set_ne za] at h1 h3
        exact absurd h3 (alone a ds1 h1)
      · rw [List.getElem?_set_ne za] at h1 h3
        rw [List.getElem?_set_ne zb] at h2 h4
        exact r2.ow a b p ds1 es h1 h2 h3 h4
/-- a list of one's own is written -/
theorem Rep.put {ds es : List PyData} {ws : List V} (r : Rep K m B0 B e σ H t) (he : e[i]? = some (.own ds)) (hs : σ[i]? = some (some (.ref p))) (b : B p) (np : ¬ m.pl p) (ra : RpA K B H es ws) :
    Rep K m B0 B (e.set i (.own es)) σ (upd H p (.lst ws)) t := by
  have al : Al B (upd H p (.lst ws)) := fun a h => by
    by_cases w : a = p
    · rw [w, upd_same]; first | exact trivial | simp
    · rw [upd_ne w]
      exact r.al a h
  have x : Xt B H (upd H p (.lst ws)) := ⟨fun a o nb z => by
    rw [upd_ne (fun w : a = p => nb (w ▸ b))]
    exact z, al⟩
  have hl : i < e.length := (List.getElem?_eq_some_iff.mp he).1
  have b0 : ¬ B0 p := by
    have s := r.sl i
    rw [he, hs] at s
    obtain ⟨q, vs, e1, _, h, _⟩ := s
    cases e1
    exact h
  refine ⟨al, r.pb, r.b0, m.putV r.ok np (r.al p b), by rw [List.length_set]; exact r.ln, fun j => ?_, fun a c q ds1 es1 h1 h2 h3 h4 => ?_⟩
  · by_cases z : i = j
    · subst z
      rw [List.getElem?_set_self hl, hs]
      exact ⟨p, ws, rfl, b, b0, np, upd_same, ra.up x⟩
    · rw [List.getElem?_set_ne z]
      have s := r.sl j
      cases q : e[j]? with
      | none => trivial
      | some y =>
        rw [q] at s
        cases y with
        | un => trivial
        | deck M => exact s
        | ptr _ _ => exact s
        | fn _ _ _ _ _ => exact ⟨⟨s.1.1, x.kp _ _ (fun b => s.1.2.2 (s.1.2.1 ▸ r.al _ b)) s.1.2.1, s.1.2.2⟩, s.2.up x⟩
        | dat d =>
          obtain ⟨v, e1, r1⟩ := s
          exact ⟨v, e1, r1.up x⟩
        | own fs =>
          obtain ⟨p2, vs2, e1, b2, b02, np2, hp2, r2⟩ := s
          have ne : p2 ≠ p := fun w => by
            subst w
            exact z (r.ow i j p2 ds fs he q hs e1)
          exact ⟨p2, vs2, e1, b2, b02, np2, by rw [upd_ne ne]; exact hp2, r2.up x⟩
  · have own_of : ∀ (c : Nat) (fs : List PyData), (e.set i (.own es))[c]? = some (.own fs) → ∃ gs, e[c]? = some (.own gs) := fun c fs h => by
      by_cases z : i = c
      · subst z
        exact ⟨ds, he⟩
      · rw [List.getElem?_set_ne z] at h
        exact ⟨fs, h⟩
    obtain ⟨g1, k1⟩ := own_of a ds1 h1
    obtain ⟨g2, k2⟩ := own_of c es1 h2
    exact r.ow a c q g1 g2 k1 k2 h3 h4
/-- a list of one's own becomes data -/
theorem Rep.frz {ds : List PyData} (r : Rep K m B0 B e σ H t) (he : e[i]? = some (.own ds)) : ∃ B', (∀ a, B' a → B a) ∧ (∀ a, B0 a → B' a) ∧ Rep K m B0 B' (e.set i (.dat (.list ds))) σ H t := by
  have s := r.sl i
  rw [he] at s
  obtain ⟨p, vs, hs, b, b0, np, hp, ra⟩ := s
  have hl : i < e.length := (List.getElem?_eq_some_iff.mp he).1
  have ls : ∀ a, (B a ∧ a ≠ p) → B a := fun a h => h.1
  refine ⟨fun a => B a ∧ a ≠ p, ls, fun a h => ⟨r.b0 a h, fun w => b0 (w ▸ h)⟩, fun a h => r.al a h.1, fun a h => ⟨r.pb a h, fun w => np (w ▸ h)⟩, fun a h => ⟨r.b0 a h, fun w => b0 (w ▸ h)⟩, r.ok, by rw [List.length_set]; exact r.ln, fun j => ?_, fun a c q ds1 es1 h1 h2 h3 h4 => ?_⟩
  · by_cases z : i = j
    · subst z
      rw [List.getElem?_set_self hl, hs]
      exact ⟨.ref p, rfl, rp_lst.mpr ⟨p, vs, rfl, fun w => w.2 rfl, hp, RpA.less ls _ _ ra⟩⟩
    · rw [List.getElem?_set_ne z]
      have s := r.sl j
      cases q : e[j]? with
      | none => trivial
      | some y =>
        rw [q] at s
        cases y with
        | un => trivial
        | deck M => exact s
        | ptr _ _ => exact s
        | fn _ _ _ _ _ => exact ⟨s.1, Rp.less ls _ _ s.2⟩
        | dat d =>
          obtain ⟨v, e1, r1⟩ := s
          exact ⟨v, e1, Rp.less ls _ _ r1⟩
        | own fs =>
          obtain ⟨p2, vs2, e1, b2, b02, np2, hp2, r2⟩ := s
          have ne : p2 ≠ p := fun w => by
            subst w
            exact z (r.ow i j p2 ds fs he q hs e1)
          exact ⟨p2, vs2, e1, ⟨b2, ne⟩, b02, np2, hp2, RpA.less ls _ _ r2⟩
  · have na : i ≠ a := fun z => by subst z; rw [List.getElem?_set_self hl] at h1; cases h1
    have nc : i ≠ c := fun z => by subst z; rw [List.getElem?_set_self hl] at h2; cases h2
    rw [List.getElem?_set_ne na] at h1
    rw [List.getElem?_set_ne nc] at h2
    exact r.ow a c q ds1 es1 h1 h2 h3 h4
end
end CG
namespace CG
open PySem PySem.Spec PyProof.Rows L2
section
variable {K : PySem.W.Frag}
theorem RpA.set {B : Addr → Prop} {H : Hp} {d : PyData} {v : V} (h : Rp K B H d v) : ∀ {ds : List PyData} {xs : List V} {j : Nat}, RpA K B H ds xs → RpA K B H (ds.set j d) (xs.set j v)
  | [], xs, j, r => by rw [rpa_nil.mp r]; exact .nil
  | c :: ds, xs, 0, r => by
    obtain ⟨y, w, rfl, h1, h2⟩ := rpa_cons.mp r
    exact .cons h h2
  | c :: ds, xs, j + 1, r => by
    obtain ⟨y, w, rfl, h1, h2⟩ := rpa_cons.mp r
    exact .cons h1 (RpA.set h h2)
noncomputable def AS.nop (K : PySem.W.Frag) : AS K := ⟨tNext, fun e t k => k.nx e t, fun {m B0 B1 H0 H1 Dd k} c {B e σ H t} f r h => c.nx f r h⟩
noncomputable def AS.seq (a b : AS K) : AS K := ⟨tSeq a.ts b.ts, fun e t k => a.wp e t { k with nx := fun e' t' => b.wp e' t' k }, fun {m B0 B1 H0 H1 Dd k} c {B e σ H t} f r h =>
  a.ok (Dd := { Dd with nx := b.ts Dd }) (k := { k with nx := fun e' t' => b.wp e' t' k }) ⟨fun f' r' h' => b.ok c f' r' h', c.bk, c.ct, c.rt⟩ f r h⟩
noncomputable def AS.set (i : Nat) (a : AE K) : AS K := ⟨tAsg a.te (gName i), fun e t k => a.wp e t fun d t1 => k.nx (e.set i (.dat d)) t1, fun {m B0 B1 H0 H1 Dd k} c {B e σ H t} f r h =>
  a.ok r h _ fun v d H2 t2 x2 k2 h2 r2 => c.nx (f.step r x2) ((r.up x2 k2).set r2) h2⟩
noncomputable def AS.asg (a : AE K) (g : AG K) : AS K := ⟨tAsg a.te g.tg, fun e t k => a.wp e t fun d t1 => g.wp d e fun e' => k.nx e' t1, fun {m B0 B1 H0 H1 Dd k} c {B e σ H t} f r h =>
  a.ok r h _ fun v d H2 t2 x2 k2 h2 r2 => g.ok (r.up x2 k2) r2 h2 _ fun e' σ' hk r' _ _ => c.nx (f.step r x2) r' hk⟩
noncomputable def AS.drop (a : AE K) : AS K := ⟨tDrop a.te, fun e t k => a.wp e t fun _ t1 => k.nx e t1, fun {m B0 B1 H0 H1 Dd k} c {B e σ H t} f r h =>
  a.ok r h _ fun v d H2 t2 x2 k2 h2 r2 => c.nx (f.step r x2) (r.up x2 k2) h2⟩
noncomputable def un2 : List PyData → (PyData → PyData → Prop) → Prop
  | [a, b], k => k a b
  | _, _ => False
noncomputable def un3 : List PyData → (PyData → PyData → PyData → Prop) → Prop
  | [a, b, c], k => k a b c
  | _, _ => False
/-- x, y = a, b -/
noncomputable def AS.par (i j : Nat) (a : AA K) : AS K := ⟨tPar i j a.ta, fun e t k => a.wp e t fun ds t1 => un2 ds fun x y => k.nx ((e.set i (.dat x)).set j (.dat y)) t1, fun {m B0 B1 H0 H1 Dd k} c {B e σ H t} f r h =>
  a.ok r h _ fun vs ds H2 t2 x2 k2 h2 r2 => by
    unfold un2 at h2
    split at h2
    · obtain ⟨v, w, rfl, q1, q2⟩ := rpa_cons.mp r2
      obtain ⟨v2, w2, rfl, q3, q4⟩ := rpa_cons.mp q2
      obtain rfl := rpa_nil.mp q4
      exact ⟨v, v2, rfl, c.nx (f.step r x2) (((r.up x2 k2).set q1).set q3) h2⟩
    · exact h2.elim⟩
noncomputable def AS.ret (a : AE K) : AS K := ⟨tRet a.te, fun e t k => a.wp e t k.rt, fun {m B0 B1 H0 H1 Dd k} c {B e σ H t} f r h =>
  a.ok r h _ fun v d H2 t2 x2 k2 h2 r2 => c.rt (f.x0.trans x2) k2 h2 (Rp.less f.g0.up _ _ r2)⟩
noncomputable def AS.ifS (c : AT K) (a b : AS K) : AS K := ⟨tIfS c.tt a.ts b.ts, fun e t k => c.wp e t fun z t1 => if z = true then a.wp e t1 k else b.wp e t1 k, fun {m B0 B1 H0 H1 Dd k} cn {B e σ H t} f r h =>
  c.ok r h _ fun z H2 t2 x2 k2 h2 => by
    cases z with
    | true =>
      rw [if_pos rfl] at h2 ⊢
      exact a.ok cn (f.step r x2) (r.up x2 k2) h2
    | false =>
      rw [if_neg (by decide)] at h2 ⊢
      exact b.ok cn (f.step r x2) (r.up x2 k2) h2⟩
/-- for g in it: s -/
noncomputable def AS.for (it : AI K) (g : AG K) (s : AS K) : AS K := ⟨tFor it.ti g.tg s.ts, fun e t k => it.wp e t fun ds t1 => ∃ I : Nat → En → Tq → Prop, I 0 e t1 ∧
    (∀ (i : Nat) d e' t', ds[i]? = some d → I i e' t' → g.wp d e' fun e2 => s.wp e2 t' { k with nx := I (i + 1), ct := I (i + 1), bk := k.nx }) ∧ ∀ e' t', I ds.length e' t' → k.nx e' t', fun {m B0 B1 H0 H1 Dd k} c {B e σ H t} f r h =>
  it.ok r h _ fun J ds H2 t2 x2 k2 h2 sq => by
    obtain ⟨I, i0, is, ie⟩ := h2
    have f2 := f.step r x2
    have r2 := r.up x2 k2
    have fh := f2.here r2
    refine ⟨fun i mm σ' H' => mm = ds.length - i ∧ i ≤ ds.length ∧ ∃ B' e' t', Fr m B0 H0 B H2 B' H' ∧ Rep K m B0 B' e' σ' H' t' ∧ I i e' t', ⟨ds.length, by simp, Nat.zero_le _, B, e, t2, fh, r2, i0⟩, ?_⟩
    rintro i mm σ' H' ⟨rfl, hi, B', e', t', f', r', hI⟩
    obtain ⟨sg, ss, sy⟩ := f'.sq r' sq
    by_cases hlt : i < ds.length
    · refine .inr ⟨sg i hlt, fun σ3 H3 => ∃ B' e' t', Fr m B0 H0 B H2 B' H3 ∧ Rep K m B0 B' e' σ3 H3 t' ∧ I (i + 1) e' t', fun σ3 H3 p => ⟨ds.length - (i + 1), by omega, rfl, hlt, p⟩, fun x H3 y => ?_⟩
      obtain ⟨s3, rx⟩ := sy i ds[i] x H3 (List.getElem?_eq_getElem hlt) y
      have r3 := r'.same s3
      have f3 := f'.step r' (m.xs r'.ok s3)
      refine g.ok r3 rx (is i ds[i] e' t' (List.getElem?_eq_getElem hlt) hI) _ fun e4 σ4 hk r4 _ _ => ?_
      refine s.ok (B1 := B) (H1 := H2) (Dd := { Dd with nx := fun σ3 H3 => ∃ B' e' t', Fr m B0 H0 B H2 B' H3 ∧ Rep K m B0 B' e' σ3 H3 t' ∧ I (i + 1) e' t', ct := fun σ3 H3 => ∃ B' e' t', Fr m B0 H0 B H2 B' H3 ∧ Rep K m B0 B' e' σ3 H3 t' ∧ I (i + 1) e' t', bk := Dd.nx }) (k := { k with nx := I (i + 1), ct := I (i + 1), bk := k.nx }) ⟨fun f5 r5 h5 => ⟨_, _, _, f5, r5, h5⟩, fun f5 r5 h5 => c.nx (f2.comp f5) r5 h5, fun f5 r5 h5 => ⟨_, _, _, f5, r5, h5⟩, c.rt⟩ f3 r4 hk
    · have e1 : i = ds.length := by omega
      subst e1
      exact .inl ⟨ss, c.nx (f2.comp f') r' (ie e' t' hI)⟩⟩
noncomputable def AS.setOwn (i : Nat) (a : AF K) : AS K := ⟨tAsg a.te (gName i), fun e t k => a.wp e t fun ds t1 => k.nx (e.set i (.own ds)) t1, fun {m B0 B1 H0 H1 Dd k} c {B e σ H t} f r h =>
  a.ok r h _ fun L ds vs H2 t2 nL x2 k2 h2 hL ra => c.nx (f.new r nL x2) (r.setOwn nL x2 k2 hL ra) h2⟩
/-- x, y = [..], b -/
noncomputable def un1 : List PyData → (PyData → Prop) → Prop
  | [a], k => k a
  | _, _ => False
/-- x.append(a) -/
noncomputable def AS.append (i : Nat) (a : AA K) : AS K := ⟨tDrop (tBM K "list" rAppend (tVar i) a.ta), fun e t k => owS e[i]? fun ds => ds.length < 100000 ∧ a.wp e t fun es t1 => un1 es fun d => k.nx (e.set i (.own (ds ++ [d]))) t1, fun {m B0 B1 H0 H1 Dd k} c {B e σ H t} f r h => by
  obtain ⟨ds, p, vs, e1, e2, b, b0, np, hp, ra, hl, h⟩ := r.own h
  refine ⟨.ref p, e2, .inl ⟨rfl, _, SqL.of hp⟩, a.ok r h _ fun ws es H2 t2 x2 k2 h2 r2 => ?_⟩
  unfold un1 at h2
  split at h2
  · obtain ⟨v, w, rfl, q1, q2⟩ := rpa_cons.mp r2
    obtain rfl := rpa_nil.mp q2
    have s2 := r.up x2 k2
    have ra2 := ra.up (r.wd x2)
    refine ⟨p, vs, v, rfl, rfl, x2.kp _ _ np hp, by rw [← ra.length]; exact Nat.lt_of_lt_of_le hl (by decide), ?_⟩
    exact c.nx ((f.step r x2).put s2 b b0 np) (s2.put e1 e2 b np (RpA.append ra2 (.cons q1 .nil))) h2
  · exact h2.elim⟩
/-- from here on the list is data -/
noncomputable def AS.frz (i : Nat) (s : AS K) : AS K := ⟨s.ts, fun e t k => owS e[i]? fun ds => s.wp (e.set i (.dat (.list ds))) t k, fun {m B0 B1 H0 H1 Dd k} c {B e σ H t} f r h => by
  obtain ⟨ds, p, vs, e1, e2, b, b0, np, hp, ra, h⟩ := r.own h
  obtain ⟨B', h1, h2, r'⟩ := r.frz e1
  exact s.ok c (f.less h1 h2) r' h⟩
end
end CG
namespace CG
open PySem PySem.Spec PyProof.Rows L2
/-- // by a positive divisor below 2^64 -/
noncomputable def CDv (_ j : Int) : Prop := 0 < j ∧ j < 18446744073709551616
theorem op_dvU {X : Cx} : OpR X (binaryOp .FloorDiv) (rI CDv fun i j => .int (i / j)) := by
  intro pins s σ H x y v u Q I rx ry h
  obtain ⟨i, j, e1, e2, hc, q⟩ := h
  refine op_fdivW pins s σ H x y v u Q I rx ry ⟨i, j, e1, e2, ⟨hc.1, ?_⟩, q⟩
  obtain ⟨h1, h2⟩ := hc
  have h3 : j.natAbs < 2 ^ 64 := by omega
  have h4 : j.natAbs ≠ 0 := by omega
  have := (Nat.log2_lt h4).mpr h3
  omega
section
variable {K : PySem.W.Frag}
noncomputable abbrev aDv (K : PySem.W.Frag) : A2 K := aI K CDv fun i j => i / j
noncomputable def AS.never (K : PySem.W.Frag) : AS K := ⟨tNever, fun _ _ _ => False, fun {m B0 B1 H0 H1 Dd k} c {B e σ H t} f r h => h⟩
/-- x is True -/
noncomputable def isBF : PyData → PyData → (PyData → Prop) → Prop
  | .bool a, .bool b, k => k (.bool (decide (a = b)))
  | _, _, _ => False
noncomputable def aIsB (K : PySem.W.Frag) : A2 K := ⟨rIsB, isBF, fun {B a b k} h => by
  unfold isBF at h
  split at h
  · refine ⟨_, h, fun H1 x y _ hx hy Q q => ?_⟩
    exact ⟨_, _, rp_bl.mp hx, rp_bl.mp hy, q _ H1 (Same.refl H1) (rp_bl.mpr rfl)⟩
  · exact h.elim⟩
noncomputable def isNotBF : PyData → PyData → (PyData → Prop) → Prop
  | .bool a, .bool b, k => k (.bool (!decide (a = b)))
  | _, _, _ => False
noncomputable def aIsNotB (K : PySem.W.Frag) : A2 K := ⟨rNotB, isNotBF, fun {B a b k} h => by
  unfold isNotBF at h
  split at h
  · refine ⟨_, h, fun H1 x y _ hx hy Q q => ?_⟩
    exact ⟨_, _, rp_bl.mp hx, rp_bl.mp hy, q _ H1 (Same.refl H1) (rp_bl.mpr rfl)⟩
  · exact h.elim⟩
/-- x in a list, a tuple of flat things -/
noncomputable def rInU (K : PySem.W.Frag) : R2 := fun x y H Q => rInD K x y H Q ∨ rIn K false x y H Q
noncomputable def rNotInU (K : PySem.W.Frag) : R2 := fun x y H Q => rNotInD K x y H Q ∨ rIn K true x y H Q
noncomputable def isI : PyData → Bool
  | .int _ => true
  | _ => false
noncomputable def inF : PyData → PyData → (PyData → Prop) → Prop
  | d, .list ds, k => Cmp d (.list ds) ∧ k (.bool (ds.any fun z => PyData.eqv z d))
  | .int i, .tuple ds, k => ds.all isI = true ∧ k (.bool (ds.any fun z => PyData.eqv z (.int i)))
  | _, _, _ => False
noncomputable def notInF : PyData → PyData → (PyData → Prop) → Prop
  | d, .list ds, k => Cmp d (.list ds) ∧ k (.bool (!ds.any fun z => PyData.eqv z d))
  | .int i, .tuple ds, k => ds.all isI = true ∧ k (.bool (!ds.any fun z => PyData.eqv z (.int i)))
  | _, _, _ => False
theorem ints_all {B : Addr → Prop} {H : Hp} {i : Int} : ∀ {ds : List PyData} {xs : List V}, ds.all isI = true → RpA K B H ds xs → xs.all flatV = true ∧ inV (.int i) xs = ds.any fun z => PyData.eqv z (.int i)
  | [], xs, _, r => by rw [rpa_nil.mp r]; exact ⟨rfl, rfl⟩
  | d :: ds, xs, h, r => by
    obtain ⟨x, t, rfl, h1, h2⟩ := rpa_cons.mp r
    rw [List.all_cons, Bool.and_eq_true] at h
    obtain ⟨g1, g2⟩ := ints_all (i := i) h.2 h2
    cases d with
    | int j =>
      obtain rfl := rp_int.mp h1
      refine ⟨by rw [List.all_cons, g1]; rfl, ?_⟩
      unfold inV at g2 ⊢
      rw [List.any_cons, List.any_cons, g2]
      congr 1
    | _ => cases h.1
noncomputable def aIn (K : PySem.W.Frag) : A2 K := ⟨rInU K, inF, fun {B a b k} h => by
  unfold inF at h
  split at h
  · refine ⟨_, h.2, fun H1 x y al hx hy Q q => .inl ⟨_, _, Rp.dp _ _ hx h.1.1.1, Rp.dp _ _ hy h.1.2.1, h.1.1.2, h.1.2.2, q _ H1 (Same.refl H1) (rp_bl.mpr rfl)⟩⟩
  · refine ⟨_, h.2, fun H1 x y al hx hy Q q => ?_⟩
    obtain ⟨p, xs, rfl, na, s, t⟩ := rp_tup.mp hy
    obtain rfl := rp_int.mp hx
    obtain ⟨g1, g2⟩ := ints_all h.1 t
    refine .inr ⟨p, xs, rfl, .inr s, rfl, g1, ?_⟩
    rw [if_neg (by decide), g2]
    exact q _ H1 (Same.refl H1) (rp_bl.mpr rfl)
  · exact h.elim⟩
noncomputable def aNotIn (K : PySem.W.Frag) : A2 K := ⟨rNotInU K, notInF, fun {B a b k} h => by
  unfold notInF at h
  split at h
  · refine ⟨_, h.2, fun H1 x y al hx hy Q q => .inl ⟨_, _, Rp.dp _ _ hx h.1.1.1, Rp.dp _ _ hy h.1.2.1, h.1.1.2, h.1.2.2, q _ H1 (Same.refl H1) (rp_bl.mpr rfl)⟩⟩
  · refine ⟨_, h.2, fun H1 x y al hx hy Q q => ?_⟩
    obtain ⟨p, xs, rfl, na, s, t⟩ := rp_tup.mp hy
    obtain rfl := rp_int.mp hx
    obtain ⟨g1, g2⟩ := ints_all h.1 t
    refine .inr ⟨p, xs, rfl, .inr s, rfl, g1, ?_⟩
    rw [if_pos rfl, g2]
    exact q _ H1 (Same.refl H1) (rp_bl.mpr rfl)
  · exact h.elim⟩
noncomputable def RgB (a b : Int) : Prop := -4611686018427387904 ≤ a ∧ a ≤ 1000000 ∧ -4611686018427387904 ≤ b ∧ b ≤ 1000000 ∧ b - a ≤ 1000000
theorem RgB.ok {a b : Int} (h : RgB a b) : RgOk a b := by
  obtain ⟨h1, h2, h3, h4, h5⟩ := h
  exact ⟨by omega, by omega, by omega, by omega, by omega⟩
/-- x, y, z = a, b, [..] -/
noncomputable def AS.par3B (i j l : Nat) (a b : AE K) (d : AF K) : AS K := ⟨tPar3 i j l (tCons a.te (tCons b.te (tCons d.te tNil))), fun e t k => a.wp e t fun x t1 => b.wp e t1 fun y t2 => d.wp e t2 fun ds t3 => k.nx (((e.set i (.dat x)).set j (.dat y)).set l (.own ds)) t3, fun {m B0 B1 H0 H1 Dd k} c {B e σ H t} f r h =>
  a.ok r h _ fun v x H2 t2 x2 k2 h2 r2 => by
    have s2 := r.up x2 k2
    refine b.ok s2 h2 _ fun w y H3 t3 x3 k3 h3 r3 => ?_
    have s3 := s2.up x3 k3
    refine d.ok s3 h3 _ fun L ds vs H4 t4 nL x4 k4 h4 hL ra => ⟨v, w, .ref L, rfl, ?_⟩
    have s3' := (s3.set (i := i) (r2.up (s2.wd x3))).set (i := j) r3
    exact c.nx (((f.step r x2).step s2 x3).new s3 nL x4) (s3'.setOwn nL x4 k4 hL ra) h4⟩
noncomputable def startE (N : List Str) (xs : List Sl) : En := xs ++ List.replicate (N.length - xs.length) .un
theorem rep_args {m : Dck} {B : Addr → Prop} {H : Hp} {t : Tq} {N : List Str} (al : Al B H) (pb : ∀ a, m.pl a → B a) (ok : m.ok H t) : ∀ {xs : List Sl} {vs : List V}, xs.length = vs.length →
    (∀ i : Nat, RepS K m B B H xs[i]? (vs[i]?.map some)) → (∀ x ∈ xs, ∀ ds, x ≠ .own ds) → Rep K m B B (startE N xs) (L2.start N vs) H t := by
  intro xs vs hl hs hn
  refine ⟨al, pb, fun _ h => h, ok, ?_, fun i => ?_, fun i j p ds es h1 => ?_⟩
  · unfold startE L2.start
    rw [List.length_append, List.length_append, List.length_map, List.length_replicate, List.length_replicate, hl]
  · unfold startE L2.start
    by_cases hi : i < xs.length
    · rw [List.getElem?_append_left hi, List.getElem?_append_left (by rw [List.length_map, ← hl]; exact hi), List.getElem?_map]
      exact hs i
    · rw [List.getElem?_append_right (by omega)]
      cases q : (List.replicate (N.length - xs.length) Sl.un)[i - xs.length]? with
      | none => trivial
      | some y =>
        rw [List.getElem?_replicate] at q
        split at q
        · cases q
          trivial
        · cases q
  · exfalso
    unfold startE at h1
    by_cases hi : i < xs.length
    · rw [List.getElem?_append_left hi, List.getElem?_eq_getElem hi] at h1
      exact hn _ (List.getElem_mem hi) ds (Option.some.inj h1)
    · rw [List.getElem?_append_right (by omega), List.getElem?_replicate] at h1
      split at h1
      · cases h1
      · cases h1
theorem rep_dats {m : Dck} {B : Addr → Prop} {H : Hp} : ∀ {ds : List PyData} {vs : List V}, RpA K B H ds vs → ∀ i : Nat, RepS K m B B H (ds.map Sl.dat)[i]? (vs[i]?.map some) := by
  intro ds vs r i
  rw [List.getElem?_map]
  cases q : ds[i]? with
  | none => trivial
  | some d =>
    obtain ⟨v, hv, rv⟩ := r.get q
    exact ⟨v, by rw [hv]; rfl, rv⟩
theorem cn_def {m : Dck} {B : Addr → Prop} {H : Hp} {Q : VK} {k : PK} (hq : ∀ v d H' t', Xt m.pl H H' → m.ok H' t' → k d t' → Rp K B H' d v → Q v H') :
    Cn K m B H B H { nx := fun _ t' => k .none t', rt := k } { nx := fun _ H' => Q .non H', rt := Q } :=
  ⟨fun f r h => hq .non .none _ _ f.x0 r.ok h (rp_non.mpr rfl), fun _ _ h => h.elim, fun _ _ h => h.elim, fun x k h r => hq _ _ _ _ x k h r⟩
/-- a def over data -/
theorem okA {P : Program} {w : World} {mg : Str → Option Value} {base : Heap} {x : Str} {st : Stmt} {f : Addr} {fd : FuncData} {N ps : List Str} {k : Nat} (h : Has K mg x st ps f fd) (S : FnScope N ps (defScope st)) (b : AS K) (p : Pm)
    (hb : ∀ (cd : Value) (A : Around) (out : List Env) (s : Shared) (H : Hp) (E : XK), A.guards = some [] → Room k (A.deeper (envOfC x (defScope st) s.heap.objs.size f cd)) → ∃ ts, PSs (cxOf CX0 P w K mg base N x (defScope st) f cd A out s H E).nox (defBody st) ts ∧ ts = b.ts)
    (hw : ∀ ds t (kk : PK), p.w ds t kk → ds.length = ps.length ∧ b.wp (startE N (ds.map Sl.dat)) t { nx := fun _ t' => kk .none t', rt := kk }) : FnG P w K mg base CX0 (k + 1) f fd ps (spA K p) := by
  refine okG h.F S (fun vs H Q E h => ?_) (fun cd A out s H vs Q E hgd hr h => ?_)
  · obtain ⟨m, B, t, ds, al, pb, ok, ra, hp⟩ := h
    rw [← ra.length]
    exact (hw ds t _ hp).1
  · obtain ⟨m, B, t, ds, al, pb, ok, ra, hp⟩ := h
    obtain ⟨ts, hts, rfl⟩ := hb cd A out s H E hgd hr
    refine ⟨_, hts, ?_⟩
    have r : Rep K m B B (startE N (ds.map Sl.dat)) (L2.start N vs) H t := rep_args al pb ok (by rw [List.length_map]; exact ra.length) (rep_dats ra) (fun x hx es => by
      obtain ⟨d, _, rfl⟩ := List.mem_map.mp hx
      intro z
      cases z)
    refine b.ok (cn_def (k := fun d t' => ∀ v H', Xt m.pl H H' → m.ok H' t' → Rp K B H' d v → Q v H') fun v d H' t' x k hk rv => hk v H' x k rv) ⟨⟨fun _ h => h, fun _ h => .inl h⟩, Xt.refl (m.al ok), fun _ h => .inl h, Xt.refl al⟩ r (hw ds t _ hp).2
theorem okD {P : Program} {w : World} {mg : Str → Option Value} {base : Heap} {x : Str} {st : Stmt} {f : Addr} {fd : FuncData} {N ps : List Str} {k : Nat} {M : Dck → Prop} (h : Has K mg x st ps f fd) (S : FnScope N ps (defScope st)) (b : AS K) (p : Pm)
    (hb : ∀ (cd : Value) (A : Around) (out : List Env) (s : Shared) (H : Hp) (E : XK), A.guards = some [] → Room k (A.deeper (envOfC x (defScope st) s.heap.objs.size f cd)) → ∃ ts, PSs (cxOf CX0 P w K mg base N x (defScope st) f cd A out s H E).nox (defBody st) ts ∧ ts = b.ts)
    (hw : ∀ ds t (kk : PK), p.w ds t kk → ds.length + 1 = ps.length ∧ b.wp (startE N (.deck M :: ds.map Sl.dat)) t { nx := fun _ t' => kk .none t', rt := kk }) : FnG P w K mg base CX0 (k + 1) f fd ps (spD K M p) := by
  refine okG h.F S (fun vs H Q E h => ?_) (fun cd A out s H vs Q E hgd hr h => ?_)
  · obtain ⟨m, B, t, ds, ws, rfl, hM, al, pb, ok, ra, hp⟩ := h
    rw [List.length_cons, ← ra.length]
    exact (hw ds t _ hp).1
  · obtain ⟨m, B, t, ds, ws, rfl, hM, al, pb, ok, ra, hp⟩ := h
    obtain ⟨ts, hts, rfl⟩ := hb cd A out s H E hgd hr
    refine ⟨_, hts, ?_⟩
    have r : Rep K m B B (startE N (.deck M :: ds.map Sl.dat)) (L2.start N (.ref m.D :: ws)) H t := rep_args al pb ok (by rw [List.length_cons, List.length_cons, List.length_map, ra.length]) (fun i => by
      cases i with
      | zero => exact ⟨rfl, hM⟩
      | succ i =>
        rw [List.getElem?_cons_succ, List.getElem?_cons_succ]
        exact rep_dats ra i) (fun x hx es => by
      rcases List.mem_cons.mp hx with rfl | hx
      · intro z
        cases z
      · obtain ⟨d, _, rfl⟩ := List.mem_map.mp hx
        intro z
        cases z)
    refine b.ok (cn_def (k := fun d t' => ∀ v H', Xt m.pl H H' → m.ok H' t' → Rp K B H' d v → Q v H') fun v d H' t' x k hk rv => hk v H' x k rv) ⟨⟨fun _ h => h, fun _ h => .inl h⟩, Xt.refl (m.al ok), fun _ h => .inl h, Xt.refl al⟩ r (hw ds t _ hp).2
noncomputable def spLaw (K : PySem.W.Frag) : Sp := fun vs H Q _ => ∃ (a : Addr) (ns : List Int), vs = [.ref a] ∧ SqL K H a (ns.map V.int) ∧ ∀ H', Q (.bl true) H'
/-- the deck is made -/
noncomputable def spM (K : PySem.W.Frag) (M : Dck → Prop) : Sp := fun vs H Q _ => ∃ (a : Addr) (ns : List Int), vs = [.ref a] ∧ SqL K H a (ns.map V.int) ∧ ∀ m H', M m → m.ok H' 0 → Q (.ref m.D) H'
theorem okLaw {P : Program} {w : World} {mg : Str → Option Value} {base : Heap} {x : Str} {st : Stmt} {f : Addr} {fd : FuncData} {N : List Str} {p : Str} {k : Nat} {M : Dck → Prop} (h : Has K mg x st [p] f fd) (S : FnScope N [p] (defScope st)) (b : AS K)
    (hb : ∀ (cd : Value) (A : Around) (out : List Env) (s : Shared) (H : Hp) (E : XK), A.guards = some [] → Room k (A.deeper (envOfC x (defScope st) s.heap.objs.size f cd)) → ∃ ts, PSs (cxOf CX0 P w K mg base N x (defScope st) f cd A out s H E).nox (defBody st) ts ∧ ts = tSeq (tAsg (tCall (spM K M) [] E0 (tCons (tVar 0) tNil)) (gName 1)) b.ts)
    (hN : 2 ≤ N.length) (hw : b.wp (startE N [.un, .deck M]) 0 { nx := fun _ _ => False, rt := fun d _ => d = .bool true }) : FnG P w K mg base CX0 (k + 1) f fd [p] (spLaw K) := by
  refine okG h.F S (fun vs H Q E h => ?_) (fun cd A out s H vs Q E hgd hr h => ?_)
  · obtain ⟨a, ns, rfl, _⟩ := h
    rfl
  · obtain ⟨a, ns, rfl, hS, q⟩ := h
    obtain ⟨ts, hts, rfl⟩ := hb cd A out s H E hgd hr
    refine ⟨_, hts, ?_⟩
    refine ⟨.ref a, rfl, a, ns, rfl, hS, fun m H' hM ok => ?_⟩
    have e1 : (L2.start N [V.ref a]).set 1 (some (.ref m.D)) = L2.start N [.ref a, .ref m.D] := by
      unfold L2.start
      match N, hN with
      | x :: y :: r, _ => rfl
    show b.ts _ ((L2.start N [V.ref a]).set 1 (some (.ref m.D))) H'
    rw [e1]
    have r : Rep K m m.pl m.pl (startE N [.un, .deck M]) (L2.start N [.ref a, .ref m.D]) H' 0 := rep_args (m.al ok) (fun _ h => h) ok rfl (fun i => by
      match i with
      | 0 => trivial
      | 1 => exact ⟨rfl, hM⟩
      | i + 2 => trivial) (fun x hx es => by
      simp only [List.mem_cons, List.not_mem_nil, or_false] at hx
      rcases hx with rfl | rfl <;> (intro z; cases z))
    refine b.ok (B1 := m.pl) (H1 := H') (k := { nx := fun _ _ => False, rt := fun d _ => d = .bool true }) ⟨fun _ _ h => h.elim, fun _ _ h => h.elim, fun _ _ h => h.elim, fun {v d H t} x k h r => ?_⟩ ⟨⟨fun _ h => h, fun _ h => .inl h⟩, Xt.refl (m.al ok), fun _ h => .inl h, Xt.refl (m.al ok)⟩ r hw
    obtain rfl : d = .bool true := h
    rw [rp_bl.mp r]
    exact q _
end
end CG
namespace CG
open PySem PySem.Spec PyProof.Rows L2
section
variable {K : PySem.W.Frag}
theorem w_AE_var  (i : Nat) : (AE.var K i).wp = fun e t k => rdS e[i]? fun d => k d t := rfl
theorem t_AE_var  (i : Nat) : (AE.var K i).te = tVar i := rfl
theorem w_AE_int  (i : Int) : (AE.int K i).wp = fun _ t k => k (.int i) t := rfl
theorem t_AE_int  (i : Int) : (AE.int K i).te = tC (.int i) := rfl
theorem w_AE_bl  (b : Bool) : (AE.bl K b).wp = fun _ t k => k (.bool b) t := rfl
theorem t_AE_bl  (b : Bool) : (AE.bl K b).te = tC (.bl b) := rfl
theorem w_AE_str  (z : Str) : (AE.str K z).wp = fun _ t k => k (.str z) t := rfl
theorem t_AE_str  (z : Str) : (AE.str K z).te = tC (.str z) := rfl
theorem w_AE_op (o : A2 K) (a b : AE K) : (AE.op o a b).wp = fun e t k => a.wp e t fun x t1 => b.wp e t1 fun y t2 => o.f x y fun z => k z t2 := rfl
theorem t_AE_op (o : A2 K) (a b : AE K) : (AE.op o a b).te = tOp o.r a.te b.te := rfl
theorem w_AA_nil  : (AA.nil K).wp = fun _ t k => k [] t := rfl
theorem t_AA_nil  : (AA.nil K).ta = tNil := rfl
theorem w_AA_cons (a : AE K) (b : AA K) : (AA.cons a b).wp = fun e t k => a.wp e t fun x t1 => b.wp e t1 fun xs t2 => k (x :: xs) t2 := rfl
theorem t_AA_cons (a : AE K) (b : AA K) : (AA.cons a b).ta = tCons a.te b.ta := rfl
theorem w_AE_tup (a : AA K) : (AE.tup a).wp = fun e t k => a.wp e t fun ds t1 => ds.length ≤ 100000 ∧ k (.tuple ds) t1 := rfl
theorem t_AE_tup (a : AA K) : (AE.tup a).te = tTup a.ta := rfl
theorem w_AE_lst (a : AA K) : (AE.lst a).wp = fun e t k => a.wp e t fun ds t1 => ds.length ≤ 100000 ∧ k (.list ds) t1 := rfl
theorem t_AE_lst (a : AA K) : (AE.lst a).te = tLst a.ta := rfl
theorem w_AE_cb (o : AC K) (a : AA K) : (AE.cb o a).wp = fun e t k => a.wp e t fun ds t1 => o.f ds fun z => k z t1 := rfl
theorem t_AE_cb (o : AC K) (a : AA K) : (AE.cb o a).te = tCB o.r a.ta := rfl
theorem w_AE_call (p : Pm) (E : XK) (a : AA K) : (AE.call p E a).wp = fun e t k => a.wp e t fun ds t1 => p.w ds t1 k := rfl
theorem t_AE_call (p : Pm) (E : XK) (a : AA K) : (AE.call p E a).te = tCall (spA K p) [] E a.ta := rfl
theorem w_AE_callD (M : Dck → Prop) (p : Pm) (E : XK) (i : Nat) (a : AA K) : (AE.callD M p E i a).wp = fun e t k => dkS e[i]? M ∧ a.wp e t fun ds t1 => p.w ds t1 k := rfl
theorem t_AE_callD (M : Dck → Prop) (p : Pm) (E : XK) (i : Nat) (a : AA K) : (AE.callD M p E i a).te = tCall (spD K M p) [] E (tCons (tVar i) a.ta) := rfl
theorem w_AT_test (a : AE K) : (AT.test a).wp = fun e t k => a.wp e t fun d t1 => unB d fun b => k b t1 := rfl
theorem t_AT_test (a : AE K) : (AT.test a).tt = tTest a.te := rfl
theorem w_AT_b (a : AE K) : (AT.b a).wp = fun e t k => a.wp e t fun d t1 => unB d fun b => k b t1 := rfl
theorem t_AT_b (a : AE K) : (AT.b a).tt = tB a.te := rfl
theorem w_AT_not (a : AT K) : (AT.not a).wp = fun e t k => a.wp e t fun b t1 => k (!b) t1 := rfl
theorem t_AT_not (a : AT K) : (AT.not a).tt = tNot a.tt := rfl
theorem w_AT_and (a b : AT K) : (AT.and a b).wp = fun e t k => a.wp e t fun c t1 => if c = true then b.wp e t1 k else k false t1 := rfl
theorem t_AT_and (a b : AT K) : (AT.and a b).tt = tAnd a.tt b.tt := rfl
theorem w_AT_or (a b : AT K) : (AT.or a b).wp = fun e t k => a.wp e t fun c t1 => if c = true then k true t1 else b.wp e t1 k := rfl
theorem t_AT_or (a b : AT K) : (AT.or a b).tt = tOr a.tt b.tt := rfl
theorem w_AT_yes  : (AT.yes K).wp = fun _ t k => k true t := rfl
theorem t_AT_yes  : (AT.yes K).tt = tYes := rfl
theorem w_AO_none  : (AO.none K).wp = fun _ t k => k .none t := rfl
theorem t_AO_none  : (AO.none K).tO = tNoPart := rfl
theorem w_AO_some (a : AE K) : (AO.some a).wp = fun e t k => a.wp e t fun d t1 => unI d fun i => k (.some i) t1 := rfl
theorem t_AO_some (a : AE K) : (AO.some a).tO = tPart a.te := rfl
theorem w_AI_tup (a : AE K) : (AI.tup a).wp = fun e t k => a.wp e t fun d t1 => unT d fun ds => k ds t1 := rfl
theorem t_AI_tup (a : AE K) : (AI.tup a).ti = iTup K a.te := rfl
theorem w_AI_lst (a : AE K) : (AI.lst a).wp = fun e t k => a.wp e t fun d t1 => unL d fun ds => k ds t1 := rfl
theorem t_AI_lst (a : AE K) : (AI.lst a).ti = iList K a.te := rfl
theorem w_AI_rng (a : AA K) : (AI.rng a).wp = fun e t k => a.wp e t fun ds t1 => unI1 ds fun n => (-(2 ^ 62) ≤ n ∧ n < 2 ^ 62) ∧ k (rngD 0 n) t1 := rfl
theorem t_AI_rng (a : AA K) : (AI.rng a).ti = iRng1 a.ta := rfl
theorem w_AG_name  (i : Nat) : (AG.name K i).wp = fun d e k => k (e.set i (.dat d)) := rfl
theorem t_AG_name  (i : Nat) : (AG.name K i).tg = gName i := rfl
theorem w_AGs_nil  : (AGs.nil K).wp = fun ds e k => ds = [] ∧ k e := rfl
theorem t_AGs_nil  : (AGs.nil K).tg = gNil := rfl
theorem n_AGs_nil  : (AGs.nil K).n = 0 := rfl
theorem w_AGs_cons (i : Nat) (g : AGs K) : (AGs.cons i g).wp = fun ds e k => hdW ds fun d ds => g.wp ds (e.set i (.dat d)) k := rfl
theorem t_AGs_cons (i : Nat) (g : AGs K) : (AGs.cons i g).tg = gCons (gName i) g.tg := rfl
theorem n_AGs_cons (i : Nat) (g : AGs K) : (AGs.cons i g).n = g.n + 1 := rfl
theorem w_AG_tup (g : AGs K) : (AG.tup g).wp = fun d e k => unT d fun ds => g.wp ds e k := rfl
theorem t_AG_tup (g : AGs K) : (AG.tup g).tg = gTup K g.n g.tg := rfl
theorem w_AF_ae (a : AF K) : (AF.ae a).wp = fun e t k => a.wp e t fun ds t1 => k (.list ds) t1 := rfl
theorem t_AF_ae (a : AF K) : (AF.ae a).te = a.te := rfl
theorem w_AF_lst (a : AA K) : (AF.lst a).wp = fun e t k => a.wp e t fun ds t1 => ds.length ≤ 100000 ∧ k ds t1 := rfl
theorem t_AF_lst (a : AA K) : (AF.lst a).te = tLst a.ta := rfl
theorem w_AF_lc (it : AI K) (g : AG K) (c : AT K) (a : AE K) (vs : List Nat) (hs : ∀ j ∈ g.sl, j ∈ vs) : (AF.lc it g c a vs hs).wp = fun e t k => it.wp e t fun ds t1 => ds.length ≤ 1000000 ∧ ∃ I : Nat → List PyData → Tq → Prop, I 0 [] t1 ∧
    (∀ (i : Nat) d acc t', ds[i]? = some d → I i acc t' → g.wp d (wipeE e vs) fun e2 => c.wp e2 t' fun b t3 => if b = true then a.wp e2 t3 fun x t4 => I (i + 1) (acc ++ [x]) t4 else I (i + 1) acc t3) ∧
    ∀ acc t', I ds.length acc t' → k acc t' := rfl
theorem t_AF_lc (it : AI K) (g : AG K) (c : AT K) (a : AE K) (vs : List Nat) (hs : ∀ j ∈ g.sl, j ∈ vs) : (AF.lc it g c a vs hs).te = tLc it.ti g.tg c.tt a.te vs := rfl
theorem w_AE_sl (a : AE K) (lo hi : AO K) : (AE.sl a lo hi).wp = fun e t k => a.wp e t fun d t1 => lo.wp e t1 fun l t2 => hi.wp e t2 fun u t3 => slF d l u fun z => k z t3 := rfl
theorem t_AE_sl (a : AE K) (lo hi : AO K) : (AE.sl a lo hi).te = tSl (rSlU K) a.te lo.tO hi.tO := rfl
theorem w_AE_ownTup  (i : Nat) : (AE.ownTup K i).wp = fun e t k => owS e[i]? fun ds => k (.tuple ds) t := rfl
theorem t_AE_ownTup  (i : Nat) : (AE.ownTup K i).te = tCB (rTupU K) (tCons (tVar i) tNil) := rfl
theorem w_AS_nop  : (AS.nop K).wp = fun e t k => k.nx e t := rfl
theorem t_AS_nop  : (AS.nop K).ts = tNext := rfl
theorem w_AS_seq (a b : AS K) : (AS.seq a b).wp = fun e t k => a.wp e t { k with nx := fun e' t' => b.wp e' t' k } := rfl
theorem t_AS_seq (a b : AS K) : (AS.seq a b).ts = tSeq a.ts b.ts := rfl
theorem w_AS_set (i : Nat) (a : AE K) : (AS.set i a).wp = fun e t k => a.wp e t fun d t1 => k.nx (e.set i (.dat d)) t1 := rfl
theorem t_AS_set (i : Nat) (a : AE K) : (AS.set i a).ts = tAsg a.te (gName i) := rfl
theorem w_AS_asg (a : AE K) (g : AG K) : (AS.asg a g).wp = fun e t k => a.wp e t fun d t1 => g.wp d e fun e' => k.nx e' t1 := rfl
theorem t_AS_asg (a : AE K) (g : AG K) : (AS.asg a g).ts = tAsg a.te g.tg := rfl
theorem w_AS_par (i j : Nat) (a : AA K) : (AS.par i j a).wp = fun e t k => a.wp e t fun ds t1 => un2 ds fun x y => k.nx ((e.set i (.dat x)).set j (.dat y)) t1 := rfl
theorem t_AS_par (i j : Nat) (a : AA K) : (AS.par i j a).ts = tPar i j a.ta := rfl
theorem w_AS_ret (a : AE K) : (AS.ret a).wp = fun e t k => a.wp e t k.rt := rfl
theorem t_AS_ret (a : AE K) : (AS.ret a).ts = tRet a.te := rfl
theorem w_AS_ifS (c : AT K) (a b : AS K) : (AS.ifS c a b).wp = fun e t k => c.wp e t fun z t1 => if z = true then a.wp e t1 k else b.wp e t1 k := rfl
theorem t_AS_ifS (c : AT K) (a b : AS K) : (AS.ifS c a b).ts = tIfS c.tt a.ts b.ts := rfl
theorem w_AS_for (it : AI K) (g : AG K) (s : AS K) : (AS.for it g s).wp = fun e t k => it.wp e t fun ds t1 => ∃ I : Nat → En → Tq → Prop, I 0 e t1 ∧
    (∀ (i : Nat) d e' t', ds[i]? = some d → I i e' t' → g.wp d e' fun e2 => s.wp e2 t' { k with nx := I (i + 1), ct := I (i + 1), bk := k.nx }) ∧ ∀ e' t', I ds.length e' t' → k.nx e' t' := rfl
theorem t_AS_for (it : AI K) (g : AG K) (s : AS K) : (AS.for it g s).ts = tFor it.ti g.tg s.ts := rfl
theorem w_AS_setOwn (i : Nat) (a : AF K) : (AS.setOwn i a).wp = fun e t k => a.wp e t fun ds t1 => k.nx (e.set i (.own ds)) t1 := rfl
theorem t_AS_setOwn (i : Nat) (a : AF K) : (AS.setOwn i a).ts = tAsg a.te (gName i) := rfl
theorem w_AS_append (i : Nat) (a : AA K) : (AS.append i a).wp = fun e t k => owS e[i]? fun ds => ds.length < 100000 ∧ a.wp e t fun es t1 => un1 es fun d => k.nx (e.set i (.own (ds ++ [d]))) t1 := rfl
theorem t_AS_append (i : Nat) (a : AA K) : (AS.append i a).ts = tDrop (tBM K "list" rAppend (tVar i) a.ta) := rfl
theorem w_AS_frz (i : Nat) (s : AS K) : (AS.frz i s).wp = fun e t k => owS e[i]? fun ds => s.wp (e.set i (.dat (.list ds))) t k := rfl
theorem t_AS_frz (i : Nat) (s : AS K) : (AS.frz i s).ts = s.ts := rfl
theorem w_AS_never  : (AS.never K).wp = fun _ _ _ => False := rfl
theorem t_AS_never  : (AS.never K).ts = tNever := rfl
theorem w_AS_par3B (i j l : Nat) (a b : AE K) (d : AF K) : (AS.par3B i j l a b d).wp = fun e t k => a.wp e t fun x t1 => b.wp e t1 fun y t2 => d.wp e t2 fun ds t3 => k.nx (((e.set i (.dat x)).set j (.dat y)).set l (.own ds)) t3 := rfl
theorem t_AS_par3B (i j l : Nat) (a b : AE K) (d : AF K) : (AS.par3B i j l a b d).ts = tPar3 i j l (tCons a.te (tCons b.te (tCons d.te tNil))) := rfl
theorem f_aAdd : (aAdd K).f = addF := rfl
theorem f_aMul : (aMul K).f = mulF := rfl
theorem f_aEq : (aEq K).f = eqF := rfl
theorem f_aNe : (aNe K).f = neF := rfl
theorem f_aIsN : (aIsN K).f = isNF := rfl
theorem f_aNotN : (aNotN K).f = notNF := rfl
theorem f_aIx : (aIx K).f = ixF := rfl
theorem f_aNeg : (aNeg K).f = negF := rfl
theorem f_aLen : (aLen K).f = lenF := rfl
theorem f_aRepr : (aRepr K).f = reprF := rfl
theorem f_aInt : (aInt K).f = intBF := rfl
theorem f_aIn : (aIn K).f = inF := rfl
theorem f_aNotIn : (aNotIn K).f = notInF := rfl
theorem f_aIsB : (aIsB K).f = isBF := rfl
theorem f_aIsNotB : (aIsNotB K).f = isNotBF := rfl
theorem f_aTup : (aTup K).f = tupF := rfl
theorem f_aI {C : Int → Int → Prop} {g : Int → Int → Int} : (aI K C g).f = intF C g := rfl
theorem f_aI0 {g : Int → Int → Int} : (aI0 K g).f = intF0 g := rfl
theorem f_aB0 {g : Int → Int → Bool} : (aB0 K g).f = boolF0 g := rfl
theorem f_aMin : (aMin K).f = twoF fun i j => if j < i then j else i := rfl
theorem f_aMax : (aMax K).f = twoF fun i j => if j > i then j else i := rfl
theorem t_aAdd : (aAdd K).r = rAddU K := rfl
theorem t_aMul : (aMul K).r = rMulU K := rfl
theorem t_aEq : (aEq K).r = rEqU K := rfl
theorem t_aNe : (aNe K).r = rNeU K := rfl
theorem t_aIsN : (aIsN K).r = rIsNU := rfl
theorem t_aNotN : (aNotN K).r = rNotNU := rfl
theorem t_aIx : (aIx K).r = rIx K := rfl
theorem t_aNeg : (aNeg K).r = rU fun i => .int (-i) := rfl
theorem t_aLen : (aLen K).r = rLenU K := rfl
theorem t_aRepr : (aRepr K).r = rRepr K := rfl
theorem t_aInt : (aInt K).r = rIntU := rfl
theorem t_aIn : (aIn K).r = rInU K := rfl
theorem t_aNotIn : (aNotIn K).r = rNotInU K := rfl
theorem t_aIsB : (aIsB K).r = rIsB := rfl
theorem t_aIsNotB : (aIsNotB K).r = rNotB := rfl
theorem t_aTup : (aTup K).r = rTupU K := rfl
theorem t_aMin : (aMin K).r = rMinU := rfl
theorem t_aMax : (aMax K).r = rMaxU := rfl
theorem t_aI {C : Int → Int → Prop} {g : Int → Int → Int} : (aI K C g).r = rI C fun i j => .int (g i j) := rfl
theorem t_aI0 {g : Int → Int → Int} : (aI0 K g).r = rI0 fun i j => .int (g i j) := rfl
theorem t_aB0 {g : Int → Int → Bool} : (aB0 K g).r = rI0 fun i j => .bl (g i j) := rfl
theorem dkS_deck {M : Dck → Prop} : dkS (some (.deck M)) M = True := by show (M = M) = True; simp
theorem rngD_length {lo hi : Int} : (rngD lo hi).length = (hi - lo).toNat := by unfold rngD; rw [List.length_map, List.length_range]
theorem rngD_get {lo hi : Int} {i : Nat} {d : PyData} (h : (rngD lo hi)[i]? = some d) : i < (hi - lo).toNat ∧ d = .int (lo + i) := by
  unfold rngD at h
  rw [List.getElem?_map] at h
  cases q : (List.range (hi - lo).toNat)[i]? with
  | none => rw [q] at h; cases h
  | some j =>
    rw [q] at h
    obtain ⟨hi, e⟩ := List.getElem?_eq_some_iff.mp q
    rw [List.getElem_range] at e
    subst e
    rw [List.length_range] at hi
    exact ⟨hi, (Option.some.inj h).symm⟩
theorem atW_of {ds : List PyData} {i : Int} {d : PyData} {k : PyData → Prop} (h : atI ds i = some d) (q : k d) : atW ds i k := ⟨d, h, q⟩
theorem atI_nn {α : Type} {xs : List α} {i : Nat} : atI xs (i : Int) = xs[i]? := by
  unfold atI ixN
  by_cases h : i < xs.length
  · rw [if_pos (by omega), if_pos (by omega)]
    simp
  · rw [if_pos (by omega), if_neg (by omega), List.getElem?_eq_none (by omega)]
    rfl
theorem q_inL {d : PyData} {ds : List PyData} {k : PyData → Prop} : inF d (.list ds) k = (Cmp d (.list ds) ∧ k (.bool (ds.any fun z => PyData.eqv z d))) := by cases d <;> rfl
theorem q_inT {i : Int} {ds : List PyData} {k : PyData → Prop} : inF (.int i) (.tuple ds) k = (ds.all isI = true ∧ k (.bool (ds.any fun z => PyData.eqv z (.int i)))) := rfl
theorem q_notInL {d : PyData} {ds : List PyData} {k : PyData → Prop} : notInF d (.list ds) k = (Cmp d (.list ds) ∧ k (.bool (!ds.any fun z => PyData.eqv z d))) := by cases d <;> rfl
theorem q_notInT {i : Int} {ds : List PyData} {k : PyData → Prop} : notInF (.int i) (.tuple ds) k = (ds.all isI = true ∧ k (.bool (!ds.any fun z => PyData.eqv z (.int i)))) := rfl
theorem q_isB {a b : Bool} {k : PyData → Prop} : isBF (.bool a) (.bool b) k = k (.bool (decide (a = b))) := rfl
theorem q_isNotB {a b : Bool} {k : PyData → Prop} : isNotBF (.bool a) (.bool b) k = k (.bool (!decide (a = b))) := rfl
theorem q_addI {i j : Int} {k : PyData → Prop} : addF (.int i) (.int j) k = k (.int (i + j)) := rfl
theorem q_addT {ds es : List PyData} {k : PyData → Prop} : addF (.tuple ds) (.tuple es) k = (ds.length + es.length ≤ 100000 ∧ k (.tuple (ds ++ es))) := rfl
theorem q_addL {ds es : List PyData} {k : PyData → Prop} : addF (.list ds) (.list es) k = (ds.length + es.length ≤ 100000 ∧ k (.list (ds ++ es))) := rfl
theorem q_int {C : Int → Int → Prop} {g : Int → Int → Int} {i j : Int} {k : PyData → Prop} : intF C g (.int i) (.int j) k = (C i j ∧ k (.int (g i j))) := rfl
theorem q_int0 {g : Int → Int → Int} {i j : Int} {k : PyData → Prop} : intF0 g (.int i) (.int j) k = k (.int (g i j)) := rfl
theorem q_bool0 {g : Int → Int → Bool} {i j : Int} {k : PyData → Prop} : boolF0 g (.int i) (.int j) k = k (.bool (g i j)) := rfl
theorem q_mulI {i j : Int} {k : PyData → Prop} : mulF (.int i) (.int j) k = (CMul i j ∧ k (.int (i * j))) := rfl
theorem q_mulT {ds : List PyData} {n : Int} {k : PyData → Prop} : mulF (.tuple ds) (.int n) k = ((ds ≠ [] ∧ 2 ≤ n ∧ n ≤ 1000 ∧ ds.length ≤ 1000) ∧ k (.tuple (List.replicate n.toNat ds).flatten)) := rfl
theorem q_mulL {ds : List PyData} {n : Int} {k : PyData → Prop} : mulF (.list ds) (.int n) k = ((0 ≤ n ∧ n ≤ 1000 ∧ ds.length ≤ 1000) ∧ k (.list (List.replicate n.toNat ds).flatten)) := rfl
theorem q_eqI {i j : Int} {k : PyData → Prop} : eqF (.int i) (.int j) k = k (.bool (decide (i = j))) := rfl
theorem q_eqS {i j : Str} {k : PyData → Prop} : eqF (.str i) (.str j) k = k (.bool (decide (i = j))) := rfl
theorem q_neI {i j : Int} {k : PyData → Prop} : neF (.int i) (.int j) k = k (.bool (!decide (i = j))) := rfl
theorem q_neS {i j : Str} {k : PyData → Prop} : neF (.str i) (.str j) k = k (.bool (!decide (i = j))) := rfl
theorem q_isN {a : PyData} {k : PyData → Prop} : isNF a .none k = k (.bool (isNone a)) := by cases a <;> rfl
theorem q_notN {a : PyData} {k : PyData → Prop} : notNF a .none k = k (.bool (!isNone a)) := by cases a <;> rfl
theorem q_ixT {ds : List PyData} {i : Int} {k : PyData → Prop} : ixF (.tuple ds) (.int i) k = atW ds i k := rfl
theorem q_ixL {ds : List PyData} {i : Int} {k : PyData → Prop} : ixF (.list ds) (.int i) k = atW ds i k := rfl
theorem q_neg {i : Int} {k : PyData → Prop} : negF (.int i) k = k (.int (-i)) := rfl
theorem q_lenT {ds : List PyData} {k : PyData → Prop} : lenF [.tuple ds] k = k (.int ds.length) := rfl
theorem q_lenL {ds : List PyData} {k : PyData → Prop} : lenF [.list ds] k = k (.int ds.length) := rfl
theorem q_repr {d : PyData} {k : PyData → Prop} : reprF [d] k = (Shx d ∧ k (.str d.shown)) := rfl
theorem q_two {g : Int → Int → Int} {i j : Int} {k : PyData → Prop} : twoF g [.int i, .int j] k = k (.int (g i j)) := rfl
theorem q_intB {b : Bool} {k : PyData → Prop} : intBF [.bool b] k = k (.int (if b then 1 else 0)) := rfl
theorem q_tupT {ds : List PyData} {k : PyData → Prop} : tupF [.tuple ds] k = k (.tuple ds) := rfl
theorem q_tupL {ds : List PyData} {k : PyData → Prop} : tupF [.list ds] k = k (.tuple ds) := rfl
theorem q_slT {ds : List PyData} {lo hi : Option Int} {k : PyData → Prop} : slF (.tuple ds) lo hi k = k (.tuple (cutD ds lo hi)) := rfl
theorem q_slL {ds : List PyData} {lo hi : Option Int} {k : PyData → Prop} : slF (.list ds) lo hi k = k (.list (cutD ds lo hi)) := rfl
theorem q_unB {b : Bool} {k : Bool → Prop} : unB (.bool b) k = k b := rfl
theorem q_unI {i : Int} {k : Int → Prop} : unI (.int i) k = k i := rfl
theorem q_unT {ds : List PyData} {k : List PyData → Prop} : unT (.tuple ds) k = k ds := rfl
theorem q_unL {ds : List PyData} {k : List PyData → Prop} : unL (.list ds) k = k ds := rfl
theorem q_unI1 {i : Int} {k : Int → Prop} : unI1 [.int i] k = k i := rfl
theorem q_unI2 {i j : Int} {k : Int → Int → Prop} : unI2 [.int i, .int j] k = k i j := rfl
theorem q_unT1 {ds : List PyData} {k : List PyData → Prop} : unT1 [.tuple ds] k = k ds := rfl
theorem q_unS1T {ds : List PyData} {k : List PyData → Prop} : unS1 [.tuple ds] k = k ds := rfl
theorem q_unS1L {ds : List PyData} {k : List PyData → Prop} : unS1 [.list ds] k = k ds := rfl
theorem q_un1 {a : PyData} {k : PyData → Prop} : un1 [a] k = k a := rfl
theorem q_un2 {a b : PyData} {k : PyData → PyData → Prop} : un2 [a, b] k = k a b := rfl
theorem q_un3 {a b c : PyData} {k : PyData → PyData → PyData → Prop} : un3 [a, b, c] k = k a b c := rfl
theorem q_hd {a : PyData} {ds : List PyData} {k : PyData → List PyData → Prop} : hdW (a :: ds) k = k a ds := rfl
theorem q_rd {d : PyData} {k : PyData → Prop} : rdS (some (.dat d)) k = k d := rfl
theorem q_ow {ds : List PyData} {k : List PyData → Prop} : owS (some (.own ds)) k = k ds := rfl
theorem q_ctrT {c : Ctr} {k : List PyData → Prop} : unT c.d k = k [.int c.s, .int c.t, .int c.g, .int c.e] := rfl
theorem q_ctrI {c : Ctr} {i : Int} {k : PyData → Prop} : ixF c.d (.int i) k = atW [.int c.s, .int c.t, .int c.g, .int c.e] i k := rfl
theorem q_ctrS {c : Ctr} {k : PyData → Prop} : slF c.d (some 2) none k = k (.tuple [.int c.g, .int c.e]) := rfl
theorem q_ctrS2 {c : Ctr} {k : PyData → Prop} : slF c.d none (some 2) k = k (.tuple [.int c.s, .int c.t]) := rfl
theorem q_brdT {n : Int} {cs : List Ctr} {k : List PyData → Prop} : unT (boardD n cs) k = k [.int n, rowsD cs] := rfl
theorem q_brd0 {n : Int} {cs : List Ctr} {k : PyData → Prop} : ixF (boardD n cs) (.int 0) k = k (.int n) := by
  refine propext ⟨fun ⟨d, e, h⟩ => ?_, fun h => ⟨_, rfl, h⟩⟩
  cases e
  exact h
theorem q_brd1 {n : Int} {cs : List Ctr} {k : PyData → Prop} : ixF (boardD n cs) (.int 1) k = k (rowsD cs) := by
  refine propext ⟨fun ⟨d, e, h⟩ => ?_, fun h => ⟨_, rfl, h⟩⟩
  cases e
  exact h
theorem q_rowI {cs : List Ctr} {i : Int} {k : PyData → Prop} : ixF (rowsD cs) (.int i) k = atW (cs.map Ctr.d) i k := rfl
theorem q_rowT {cs : List Ctr} {k : List PyData → Prop} : unT (rowsD cs) k = k (cs.map Ctr.d) := rfl
theorem q_rowT1 {cs : List Ctr} {k : List PyData → Prop} : unT1 [rowsD cs] k = k (cs.map Ctr.d) := rfl
theorem q_rowL {cs : List Ctr} {k : PyData → Prop} : lenF [rowsD cs] k = k (.int cs.length) := by
  show k (.int (cs.map Ctr.d).length) = _
  rw [List.length_map]
theorem q_at0 {a : PyData} {ds : List PyData} {k : PyData → Prop} : atW (a :: ds) 0 k = k a := by
  refine propext ⟨fun ⟨d, e, h⟩ => ?_, fun h => ⟨_, ?_, h⟩⟩
  · have : atI (a :: ds) ((0 : Nat) : Int) = some d := e
    rw [atI_nn] at this
    cases this
    exact h
  · show atI (a :: ds) ((0 : Nat) : Int) = _
    rw [atI_nn]
    rfl
theorem q_at1 {a b : PyData} {ds : List PyData} {k : PyData → Prop} : atW (a :: b :: ds) 1 k = k b := by
  refine propext ⟨fun ⟨d, e, h⟩ => ?_, fun h => ⟨_, ?_, h⟩⟩
  · have : atI (a :: b :: ds) ((1 : Nat) : Int) = some d := e
    rw [atI_nn] at this
    cases this
    exact h
  · show atI (a :: b :: ds) ((1 : Nat) : Int) = _
    rw [atI_nn]
    rfl
theorem q_at2 {a b c : PyData} {ds : List PyData} {k : PyData → Prop} : atW (a :: b :: c :: ds) 2 k = k c := by
  refine propext ⟨fun ⟨d, e, h⟩ => ?_, fun h => ⟨_, ?_, h⟩⟩
  · have : atI (a :: b :: c :: ds) ((2 : Nat) : Int) = some d := e
    rw [atI_nn] at this
    cases this
    exact h
  · show atI (a :: b :: c :: ds) ((2 : Nat) : Int) = _
    rw [atI_nn]
    rfl
theorem q_at3 {a b c d' : PyData} {ds : List PyData} {k : PyData → Prop} : atW (a :: b :: c :: d' :: ds) 3 k = k d' := by
  refine propext ⟨fun ⟨d, e, h⟩ => ?_, fun h => ⟨_, ?_, h⟩⟩
  · have : atI (a :: b :: c :: d' :: ds) ((3 : Nat) : Int) = some d := e
    rw [atI_nn] at this
    cases this
    exact h
  · show atI (a :: b :: c :: d' :: ds) ((3 : Nat) : Int) = _
    rw [atI_nn]
    rfl
end
end CG
namespace CG
open PySem PySem.Spec PyProof.Rows L2
noncomputable def viewS : Sl → Sl
  | .own ds => .dat (.list ds)
  | x => x
theorem viewE_cons {x : Sl} {e : En} : viewE (x :: e) = viewS x :: viewE e := by cases x <;> rfl
theorem viewE_nil : viewE [] = [] := rfl
theorem viewS_own {ds : List PyData} : viewS (.own ds) = .dat (.list ds) := rfl
theorem viewS_dat {d : PyData} : viewS (.dat d) = .dat d := rfl
theorem viewS_deck {M : Dck → Prop} : viewS (.deck M) = .deck M := rfl
theorem flat_int {i : Int} : flat (.int i) = true := rfl
theorem flat_bool {i : Bool} : flat (.bool i) = true := rfl
theorem flat_str {i : Str} : flat (.str i) = true := rfl
theorem rng0_get {n : Int} {i : Nat} {d : PyData} (h : (rngD 0 n)[i]? = some d) : i < n.toNat ∧ d = .int (i : Int) := by
  obtain ⟨h1, h2⟩ := rngD_get h
  rw [Int.sub_zero] at h1
  rw [Int.zero_add] at h2
  exact ⟨h1, h2⟩
noncomputable def ctr (cs : List Ctr) (i : Nat) : Ctr := cs.getD i ⟨0, 1, 1, 1⟩
theorem ctr_get {cs : List Ctr} {i : Nat} (h : i < cs.length) : cs[i]? = some (ctr cs i) := by
  unfold ctr
  rw [List.getD_eq_getElem?_getD, List.getElem?_eq_getElem h]
  rfl
theorem ctr_mem {cs : List Ctr} {i : Nat} (h : i < cs.length) : ctr cs i ∈ cs := List.mem_of_getElem? (ctr_get h)
/-- a route from the kind k -/
noncomputable def Rt (cs : List Ctr) : Int → List Nat → Prop
  | _, [] => True
  | k, i :: is => i < cs.length ∧ (ctr cs i).s = k ∧ Rt cs (ctr cs i).t is
noncomputable def endK (cs : List Ctr) : Int → List Nat → Int
  | k, [] => k
  | _, i :: is => endK cs (ctr cs i).t is
noncomputable def rtD (is : List Nat) : PyData := .tuple (is.map fun i : Nat => .int (i : Int))
/-- all numbers are those of counters -/
noncomputable def InC (cs : List Ctr) (is : List Nat) : Prop := ∀ i ∈ is, i < cs.length
section
variable {cs : List Ctr} {is js : List Nat} {k a : Int} {n : Int} {i j : Nat}
theorem Rt.inC : ∀ {is : List Nat} {k : Int}, Rt cs k is → InC cs is
  | [], _, _ => fun i h => by simp at h
  | j :: is, k, h => fun i hi => by
    rcases List.mem_cons.mp hi with rfl | hi
    · exact h.1
    · exact Rt.inC h.2.2 i hi
theorem Rt.app : ∀ {is : List Nat} {k : Int}, Rt cs k (is ++ js) ↔ Rt cs k is ∧ Rt cs (endK cs k is) js
  | [], k => by simp [Rt, endK]
  | i :: is, k => by
    simp only [List.cons_append, Rt, endK, Rt.app (is := is)]
    constructor
    · rintro ⟨h1, h2, h3, h4⟩
      exact ⟨⟨h1, h2, h3⟩, h4⟩
    · rintro ⟨⟨h1, h2, h3⟩, h4⟩
      exact ⟨h1, h2, h3, h4⟩
theorem take_next {α : Type} {xs : List α} {x : α} {i : Nat} (h : xs[i]? = some x) : xs.take (i + 1) = xs.take i ++ [x] := by
  rw [List.take_add_one, h]
  rfl
end
theorem nums_app {is : List Nat} {x : Nat} : (is.map fun i : Nat => PyData.int (i : Int)) ++ [.int (x : Int)] = (is ++ [x]).map fun i : Nat => PyData.int (i : Int) := by
  rw [List.map_append]
  rfl
/-- the least amount ahead of a counter, of a route -/
noncomputable def bef (c : Ctr) (w : Int) : Int := c.g * ((w + c.e - 1) / c.e)
noncomputable def lst (cs : List Ctr) : List Nat → Int → Int
  | [], w => w
  | i :: is, w => bef (ctr cs i) (lst cs is w)
theorem Rt.drop {cs : List Ctr} {is : List Nat} {k : Int} (h : Rt cs k is) (m : Nat) : Rt cs (endK cs k (is.take m)) (is.drop m) := by
  rw [← List.take_append_drop m is, Rt.app] at h
  exact h.2
theorem InC.take {cs : List Ctr} {is : List Nat} (h : InC cs is) (m : Nat) : InC cs (is.take m) := fun i hi => h i (List.mem_of_mem_take hi)
theorem InC.drop {cs : List Ctr} {is : List Nat} (h : InC cs is) (m : Nat) : InC cs (is.drop m) := fun i hi => h i (List.mem_of_mem_drop hi)
theorem Rt.take {cs : List Ctr} {is : List Nat} {k : Int} (h : Rt cs k is) (m : Nat) : Rt cs k (is.take m) := by
  rw [← List.take_append_drop m is, Rt.app] at h
  exact h.1
/-- a loop of at most four counters -/
noncomputable def hd0 (is : List Nat) : Nat := is.headD 0
theorem sm_intB {i : Int} {k : Nat} (hk0 : 1 ≤ k) (hk : k ≤ 1900) (h : i.natAbs < 2 ^ k) : Sm 0 (k + 2) (.int i) := by
  have hl : i.natAbs.log2 < k + 1 := by
    by_cases z : i.natAbs = 0
    · rw [z]
      have : Nat.log2 0 = 0 := by decide
      omega
    · have := (Nat.log2_lt z).mpr h
      omega
  refine ⟨?_, by simp only [PyData.hasDict], by simp only [PyData.depth]; exact Nat.le_refl _, ?_⟩
  · simp only [PyData.showable, decide_eq_true_eq]
    omega
  · rw [PyData.shown_int]
    have := int_text_length_le (a := i) (k := k + 1) (by omega) hl
    show (Str.ofString (toString i)).length ≤ k + 2
    rw [PySem.ofString_length]
    exact this
/-- numbers, and lists and tuples of them, not deep -/
noncomputable def Pl (n : Nat) (d : PyData) : Prop := d.hasDict = false ∧ d.canLay0 = true ∧ d.depth ≤ n
section
variable {n m : Nat} {d a b : PyData} {ds : List PyData}
theorem pl_bool {i : Bool} : Pl n (.bool i) := ⟨by simp only [PyData.hasDict], by simp only [PyData.canLay0], by simp only [PyData.depth]; exact Nat.zero_le _⟩
theorem pl_all : ∀ {ds : List PyData}, (∀ d ∈ ds, Pl n d) → PyData.hasDictAll ds = false ∧ PyData.canLayAll0 ds = true ∧ PyData.depthAll ds ≤ n
  | [], _ => ⟨by simp only [PyData.hasDictAll], by simp only [PyData.canLayAll0], by simp only [PyData.depthAll]; exact Nat.zero_le _⟩
  | d :: ds, h => by
    obtain ⟨h1, h2, h3⟩ := pl_all (ds := ds) fun x hx => h x (List.mem_cons_of_mem _ hx)
    obtain ⟨k1, k2, k3⟩ := h d List.mem_cons_self
    exact ⟨by simp only [PyData.hasDictAll, k1, h1, Bool.or_false], by simp only [PyData.canLayAll0, k2, h2, Bool.and_true], by simp only [PyData.depthAll]; exact Nat.max_le.mpr ⟨k3, h3⟩⟩
theorem pl_lst (h : ∀ d ∈ ds, Pl n d) : Pl (n + 1) (.list ds) := by
  obtain ⟨h1, h2, h3⟩ := pl_all h
  exact ⟨by simpa only [PyData.hasDict] using h1, by simpa only [PyData.canLay0] using h2, by simp only [PyData.depth]; omega⟩
theorem Pl.mono (h : Pl n d) (hn : n ≤ m) : Pl m d := ⟨h.1, h.2.1, Nat.le_trans h.2.2 hn⟩
theorem cmp_pl (ha : Pl 64 a) (hb : Pl 64 b) : Cmp a b := by
  refine ⟨⟨ha.1, ?_⟩, hb.1, ?_⟩
  · simp only [SeqAt.shaped, ha.2.1, Bool.true_and, decide_eq_true_eq]
    exact ha.2.2
  · simp only [SeqAt.shaped, hb.2.1, Bool.true_and, decide_eq_true_eq]
    exact hb.2.2
theorem eqv_self (ha : Pl n a) : PyData.eqv a a = true := SeqAt.eqv_refl a ha.2.1
theorem q_neB {a b : Bool} {k : PyData → Prop} : neF (.bool a) (.bool b) k = k (.bool (!decide (a = b))) := by
  have e : PyData.eqv (.bool a) (.bool b) = decide (a = b) := by cases a <;> cases b <;> simp [PyData.eqv]
  refine propext ⟨fun h => by rw [← e]; exact h.2, fun h => ⟨cmp_pl pl_bool pl_bool, by rw [e]; exact h⟩⟩
theorem q_eqB {a b : Bool} {k : PyData → Prop} : eqF (.bool a) (.bool b) k = k (.bool (decide (a = b))) := by
  have e : PyData.eqv (.bool a) (.bool b) = decide (a = b) := by cases a <;> cases b <;> simp [PyData.eqv]
  refine propext ⟨fun h => by rw [← e]; exact h.2, fun h => ⟨cmp_pl pl_bool pl_bool, by rw [e]; exact h⟩⟩
theorem q_isiR {is : List Nat} : isTup (rtD is) = true := rfl
theorem q_rtT {is : List Nat} {k : List PyData → Prop} : unT (rtD is) k = k (is.map fun i : Nat => .int (i : Int)) := rfl
theorem q_rtT1 {is : List Nat} {k : List PyData → Prop} : unT1 [rtD is] k = k (is.map fun i : Nat => .int (i : Int)) := rfl
theorem q_rtI {is : List Nat} {i : Int} {k : PyData → Prop} : ixF (rtD is) (.int i) k = atW (is.map fun i : Nat => .int (i : Int)) i k := rfl
theorem q_rtA {is : List Nat} {i : Nat} {k : PyData → Prop} : addF (rtD is) (.tuple [.int (i : Int)]) k = (is.length + 1 ≤ 100000 ∧ k (rtD (is ++ [i]))) := by
  show ((is.map _).length + 1 ≤ 100000 ∧ k (.tuple (is.map _ ++ [.int (i : Int)]))) = _
  rw [List.length_map, nums_app]
  rfl
theorem q_rtL {is : List Nat} {k : PyData → Prop} : lenF [rtD is] k = k (.int is.length) := by
  show k (.int (is.map _).length) = _
  rw [List.length_map]
theorem q_rtS0 {is : List Nat} {m : Nat} {k : PyData → Prop} : slF (rtD is) none (some (m : Int)) k = k (rtD (is.take m)) := by
  show k (.tuple (cutD _ _ _)) = _
  rw [cutD_take, ← List.map_take]
  rfl
theorem q_rtS1 {is : List Nat} {m : Nat} {k : PyData → Prop} : slF (rtD is) (some (m : Int)) none k = k (rtD (is.drop m)) := by
  show k (.tuple (cutD _ _ _)) = _
  rw [cutD_drop, ← List.map_drop]
  rfl
end
end CG
namespace CG
open PySem PySem.Spec PyProof.Rows L2
end CG
namespace CG
open PySem PySem.Spec PyProof.Rows L2
section
variable {K : PySem.W.Frag}
theorem ints_of {B : Addr → Prop} {H : Hp} : ∀ {is : List Int} {xs : List V}, RpA K B H (is.map PyData.int) xs → xs = is.map V.int
  | [], xs, h => rpa_nil.mp h
  | i :: is, xs, h => by
    obtain ⟨y, r, rfl, h1, h2⟩ := rpa_cons.mp h
    rw [rp_int.mp h1, ints_of h2]
    rfl
end
end CG
namespace CG
open PySem PySem.Spec PyProof.Rows L2
structure Yn where
  nx : En → List Int → Tq → Prop
structure CnY (K : PySem.W.Frag) (m : Dck) (B0 : Addr → Prop) (H0 : Hp) (B1 : Addr → Prop) (H1 : Hp) (k : Yn) (D : GEnds) : Prop where
  nx : ∀ {B e σ H t ns}, Fr m B0 H0 B1 H1 B H → Rep K m B0 B e σ H t → k.nx e ns t → D.nx (ns.map V.int) σ H
structure AY (K : PySem.W.Frag) where
  ts : TGn
  wp : En → List Int → Tq → Yn → Prop
  ok : ∀ {m : Dck} {B0 B1 : Addr → Prop} {H0 H1 : Hp} {D : GEnds} {k : Yn}, CnY K m B0 H0 B1 H1 k D → ∀ {B : Addr → Prop} {e : En} {σ : L2.St} {H : Hp} {t : Tq} {ns : List Int}, Fr m B0 H0 B1 H1 B H → Rep K m B0 B e σ H t → wp e ns t k → ts D (ns.map V.int) σ H
section
variable {K : PySem.W.Frag}
noncomputable def AY.pl (b : AS K) : AY K := ⟨tPlain b.ts, fun e ns t k => b.wp e t { nx := fun e' t' => k.nx e' ns t', rt := fun _ _ => False }, fun {m B0 B1 H0 H1 D k} c {B e σ H t ns} f r h =>
  b.ok (Dd := D.at (ns.map V.int)) (k := { nx := fun e' t' => k.nx e' ns t', rt := fun _ _ => False }) ⟨fun f' r' h' => c.nx f' r' h', fun _ _ h => h.elim, fun _ _ h => h.elim, fun _ _ h => h.elim⟩ f r h⟩
noncomputable def AY.nil (K : PySem.W.Frag) : AY K := ⟨tG0, fun e ns t k => k.nx e ns t, fun {m B0 B1 H0 H1 D k} c {B e σ H t ns} f r h => c.nx f r h⟩
noncomputable def AY.seq (a b : AY K) : AY K := ⟨tGThen a.ts b.ts, fun e ns t k => a.wp e ns t { nx := fun e' ns' t' => b.wp e' ns' t' k }, fun {m B0 B1 H0 H1 D k} c {B e σ H t ns} f r h =>
  a.ok (D := { D with nx := fun ys' σ' H' => b.ts D ys' σ' H' }) (k := { nx := fun e' ns' t' => b.wp e' ns' t' k }) ⟨fun f' r' h' => b.ok c f' r' h'⟩ f r h⟩
noncomputable def AY.yld (a : AE K) : AY K := ⟨tGYield a.te, fun e ns t k => ns.length < 10000000 ∧ a.wp e t fun d t1 => unI d fun i => k.nx e (ns ++ [i]) t1, fun {m B0 B1 H0 H1 D k} c {B e σ H t ns} f r h =>
  ⟨by rw [List.length_map]; exact Nat.lt_of_lt_of_le h.1 (by decide), a.ok r h.2 _ fun v d H2 t2 x2 k2 h2 r2 => by
    obtain ⟨i, rfl, h3⟩ := unI_of h2
    obtain rfl := rp_int.mp r2
    have z := c.nx (f.step r x2) (r.up x2 k2) h3
    rw [List.map_append] at z
    exact z⟩⟩
end
end CG
namespace CG
open PySem PySem.Spec PyProof.Rows L2
section
variable {K : PySem.W.Frag}
theorem RpA.erase {B : Addr → Prop} {H : Hp} : ∀ {ds : List PyData} {xs : List V} {j : Nat}, RpA K B H ds xs → RpA K B H (ds.eraseIdx j) (xs.eraseIdx j)
  | [], xs, j, r => by rw [rpa_nil.mp r]; exact .nil
  | c :: ds, xs, 0, r => by
    obtain ⟨y, w, rfl, h1, h2⟩ := rpa_cons.mp r
    exact h2
  | c :: ds, xs, j + 1, r => by
    obtain ⟨y, w, rfl, h1, h2⟩ := rpa_cons.mp r
    exact .cons h1 (RpA.erase h2)
end
end CG
namespace CG
open PySem PySem.Spec PyProof.Rows L2
section
variable {K : PySem.W.Frag}
noncomputable def unS : PyData → (Str → Prop) → Prop
  | .str z, k => k z
  | _, _ => False
theorem unS_of {d : PyData} {k : Str → Prop} (h : unS d k) : ∃ b, d = .str b ∧ k b := by
  cases d with
  | str b => exact ⟨b, rfl, h⟩
  | _ => exact h.elim
/-- how long texts may be here -/
noncomputable def TxL : Nat := 1000000
noncomputable def fmtF : PyData → (PyData → Prop) → Prop
  | .str y, k => y.length ≤ TxL ∧ k (.str y)
  | .int i, k => i.natAbs.log2 < 1920 ∧ k (.str (toString i))
  | _, _ => False
structure AJ (K : PySem.W.Frag) where
  ts : List TE
  wp : En → Tq → Str → (Str → Tq → Prop) → Prop
  ok : ∀ {m : Dck} {B0 B : Addr → Prop} {e : En} {σ : L2.St} {H : Hp} {t : Tq} {acc : Str} {k : Str → Tq → Prop}, Rep K m B0 B e σ H t → wp e t acc k → ∀ Q : Str → Hp → Prop,
    (∀ out H2 t', Xt m.pl H H2 → m.ok H2 t' → k out t' → Q out H2) → tJs ts acc σ H Q
noncomputable def AJ.nil (K : PySem.W.Frag) : AJ K := ⟨[], fun _ t acc k => k acc t, fun {m B0 B e σ H t acc k} r h Q q => q _ H t (Xt.refl (m.al r.ok)) r.ok h⟩
noncomputable def AJ.cons (a : AE K) (b : AJ K) : AJ K := ⟨a.te :: b.ts, fun e t acc k => a.wp e t fun d t1 => unS d fun y => (acc ++ y).length ≤ TxL ∧ b.wp e t1 (acc ++ y) k, fun {m B0 B e σ H t acc k} r h Q q =>
  a.ok r h _ fun v d H1 t1 x1 k1 h1 r1 => by
    obtain ⟨y, rfl, hl, h2⟩ := unS_of h1
    exact ⟨y, rp_str.mp r1, Nat.le_trans hl (by decide), b.ok (r.up x1 k1) h2 _ fun out H2 t2 x2 k2 h3 => q out H2 t2 (x1.trans x2) k2 h3⟩⟩
noncomputable def strF : List PyData → (PyData → Prop) → Prop
  | [.int i], k => i.natAbs.log2 < 1920 ∧ k (.str (toString i))
  | _, _ => False
noncomputable def aStr (K : PySem.W.Frag) : AC K := ⟨fun xs H Q => ∃ i, xs = [.int i] ∧ i.natAbs.log2 < 1920 ∧ Q (.str (toString i)) H, strF, fun {B as k} h => by
  unfold strF at h
  split at h
  · refine ⟨_, h.2, fun H1 xs al ra Q q => ?_⟩
    obtain ⟨v, w, rfl, q1, q2⟩ := rpa_cons.mp ra
    obtain rfl := rpa_nil.mp q2
    obtain rfl := rp_int.mp q1
    exact ⟨_, rfl, h.1, q _ H1 (fun _ _ z => z) (rp_str.mpr rfl)⟩
  · exact h.elim⟩
noncomputable def addSF : PyData → PyData → (PyData → Prop) → Prop
  | .str i, .str j, k => i.length + j.length ≤ TxL ∧ k (.str (i ++ j))
  | _, _, _ => False
noncomputable def aAddS (K : PySem.W.Frag) : A2 K := ⟨fun x y H Q => ∃ i j, x = .str i ∧ y = .str j ∧ i.length + j.length ≤ sizeLine ∧ Q (.str (i ++ j)) H, addSF, fun {B a b k} h => by
  unfold addSF at h
  split at h
  · refine ⟨_, h.2, fun H1 x y al rx ry Q q => ⟨_, _, rp_str.mp rx, rp_str.mp ry, Nat.le_trans h.1 (by decide), q _ H1 (fun _ _ z => z) (rp_str.mpr rfl)⟩⟩
  · exact h.elim⟩
theorem RpA.strs_inv {B : Addr → Prop} {H : Hp} : ∀ {ns : List Str} {xs : List V}, RpA K B H (ns.map PyData.str) xs → xs = ns.map V.str
  | [], xs, h => rpa_nil.mp h
  | n :: ns, xs, h => by
    obtain ⟨y, r, e, h1, h2⟩ := rpa_cons.mp h
    rw [e, rp_str.mp h1, RpA.strs_inv h2]
    rfl
noncomputable def joinF (sep : Str) : PyData → (PyData → Prop) → Prop
  | .list ds, k => ∃ ys : List Str, ds = ys.map PyData.str ∧ (ys.map (·.length)).sum + ys.length * sep.length ≤ TxL ∧ k (.str (Txt.join sep ys))
  | _, _ => False
noncomputable def AE.join (s a : AE K) : AE K := ⟨tM1 (fun x xs H Q => ∃ a p, ∃ ys : List Str, x = .str a ∧ xs = [.ref p] ∧ (SqL K H p (ys.map V.str) ∨ SqT K H p (ys.map V.str)) ∧ (ys.map (·.length)).sum + ys.length * a.length ≤ 16777216 ∧ Q (.str (Txt.join a ys)) H) s.te a.te,
  fun e t k => s.wp e t fun d t1 => unS d fun sep => a.wp e t1 fun x t2 => joinF sep x fun z => k z t2, fun {m B0 B e σ H t k} r h Q q =>
  s.ok r h _ fun v d H1 t1 x1 k1 h1 r1 => by
    obtain ⟨sep, rfl, h2⟩ := unS_of h1
    refine ⟨⟨sep, rp_str.mp r1⟩, a.ok (r.up x1 k1) h2 _ fun w x H2 t2 x2 k2 h3 r2 => ?_⟩
    unfold joinF at h3
    split at h3
    · obtain ⟨ys, rfl, hl, hk⟩ := h3
      obtain ⟨p, vs, rfl, nb, hp, ra⟩ := rp_lst.mp r2
      obtain rfl := RpA.strs_inv ra
      exact ⟨sep, p, ys, rp_str.mp r1, rfl, .inl (SqL.of hp), Nat.le_trans hl (by decide), q _ _ H2 t2 (x1.trans x2) k2 hk (rp_str.mpr rfl)⟩
    · exact h3.elim⟩
noncomputable def unL1 : List PyData → (List PyData → Prop) → Prop
  | [.list ds], k => k ds
  | _, _ => False
theorem q_unL1 {ds : List PyData} {k : List PyData → Prop} : unL1 [.list ds] k = k ds := rfl
theorem f_aStr : (aStr K).f = strF := rfl
theorem t_aStr : (aStr K).r = fun xs H Q => ∃ i, xs = [.int i] ∧ i.natAbs.log2 < 1920 ∧ Q (.str (toString i)) H := rfl
theorem f_aAddS : (aAddS K).f = addSF := rfl
theorem t_aAddS : (aAddS K).r = fun x y H Q => ∃ i j, x = .str i ∧ y = .str j ∧ i.length + j.length ≤ sizeLine ∧ Q (.str (i ++ j)) H := rfl
theorem q_unS {z : Str} {k : Str → Prop} : unS (.str z) k = k z := rfl
theorem q_fmtI {i : Int} {k : PyData → Prop} : fmtF (.int i) k = (i.natAbs.log2 < 1920 ∧ k (.str (toString i))) := rfl
theorem q_fmtS {y : Str} {k : PyData → Prop} : fmtF (.str y) k = (y.length ≤ TxL ∧ k (.str y)) := rfl
theorem q_strI {i : Int} {k : PyData → Prop} : strF [.int i] k = (i.natAbs.log2 < 1920 ∧ k (.str (toString i))) := rfl
theorem q_addS {i j : Str} {k : PyData → Prop} : addSF (.str i) (.str j) k = (i.length + j.length ≤ TxL ∧ k (.str (i ++ j))) := rfl
theorem q_join {sep : Str} {ds : List PyData} {k : PyData → Prop} : joinF sep (.list ds) k = ∃ ys : List Str, ds = ys.map PyData.str ∧ (ys.map (·.length)).sum + ys.length * sep.length ≤ TxL ∧ k (.str (Txt.join sep ys)) := rfl
end
end CG
namespace CG
open PySem PySem.Spec PyProof.Rows L2
open PySem.W (dataLe dataLt dataLt_tuple rowLt dataLt_ints EachIs sorted_data AllAlike Sortable alike alike_ints depth_ints dataLe_rows)
noncomputable def rSortR (K : PySem.W.Frag) : List V → Hp → VK → Prop := fun vs H Q => ∃ (a : Addr) (bs : List (V × List Int)), vs = [V.ref a] ∧ SqL K H a (bs.map Prod.fst) ∧ (∀ b ∈ bs, Dp K H b.1 (.tuple (b.2.map PyData.int))) ∧ (∀ b ∈ bs, b.2 ≠ []) ∧ bs.length ≤ sizeLine ∧
  ∀ p, H p = none → Q (.ref p) (upd H p (.lst ((bs.mergeSort fun x y => decide (x.2 ≤ y.2)).map Prod.fst)))
theorem dataLe_tups {β : Type} (x : β → List Int) : dataLe false (fun b => .tuple ((x b).map .int)) = fun p q => decide (x p ≤ x q) := by
  funext p q
  show (!dataLt (.tuple ((x q).map .int)) (.tuple ((x p).map .int))) = _
  rw [dataLt_tuple]
  show (!rowLt ((x q).map .int) ((x p).map .int)) = _
  rw [dataLt_ints]
  by_cases h : x q < x p
  · have h' : ¬ x p ≤ x q := fun r => List.not_lt.mpr r h
    simp [h, h']
  · have h' : x p ≤ x q := List.not_lt.mp h
    simp [h, h']
/-- rows, sorted -/
noncomputable def sortR (rs : List (List Int)) : List (List Int) := rs.mergeSort fun x y => decide (x ≤ y)
theorem sortR_perm (rs : List (List Int)) : (sortR rs).Perm rs := List.mergeSort_perm _ _
theorem sortR_eq {rs qs : List (List Int)} (h : rs.Perm qs) : sortR rs = sortR qs := by
  have tr : ∀ a b c : List Int, decide (a ≤ b) = true → decide (b ≤ c) = true → decide (a ≤ c) = true := fun a b c h1 h2 => decide_eq_true (List.le_trans (of_decide_eq_true h1) (of_decide_eq_true h2))
  have to : ∀ a b : List Int, (decide (a ≤ b) || decide (b ≤ a)) = true := fun a b => by
    rcases List.le_total (α := Int) a b with h | h <;> simp [h]
  refine List.Perm.eq_of_pairwise (le := fun x y : List Int => decide (x ≤ y) = true) (fun a b _ _ h1 h2 => List.le_antisymm (of_decide_eq_true h1) (of_decide_eq_true h2)) (List.pairwise_mergeSort tr to rs) (List.pairwise_mergeSort tr to qs) ?_
  exact ((sortR_perm rs).trans h).trans (sortR_perm qs).symm
section
variable {K : PySem.W.Frag}
noncomputable def rowT (r : List Int) : PyData := .tuple (r.map PyData.int)
noncomputable def sortRF : List PyData → (PyData → Prop) → Prop
  | [.list ds], k => ∃ rs : List (List Int), ds = rs.map rowT ∧ (∀ r ∈ rs, r ≠ []) ∧ rs.length ≤ 1000000 ∧ k (.list ((sortR rs).map rowT))
  | _, _ => False
theorem rows_of {B : Addr → Prop} {H : Hp} : ∀ {rs : List (List Int)} {xs : List V}, RpA K B H (rs.map rowT) xs → ∃ bs : List (V × List Int), xs = bs.map Prod.fst ∧ rs = bs.map Prod.snd ∧ ∀ b ∈ bs, Rp K B H (rowT b.2) b.1
  | [], xs, h => ⟨[], rpa_nil.mp h, rfl, fun b hb => by simp at hb⟩
  | r :: rs, xs, h => by
    obtain ⟨y, z, rfl, h1, h2⟩ := rpa_cons.mp h
    obtain ⟨bs, rfl, rfl, hb⟩ := rows_of h2
    refine ⟨(y, r) :: bs, rfl, rfl, fun b hb' => ?_⟩
    rcases List.mem_cons.mp hb' with rfl | hb'
    · exact h1
    · exact hb b hb'
theorem rpa_map {B : Addr → Prop} {H : Hp} : ∀ {bs : List (V × List Int)}, (∀ b ∈ bs, Rp K B H (rowT b.2) b.1) → RpA K B H ((bs.map Prod.snd).map rowT) (bs.map Prod.fst)
  | [], _ => RpA.nil
  | b :: bs, h => .cons (h b (by simp)) (rpa_map fun c hc => h c (by simp [hc]))
theorem dp_row {B : Addr → Prop} {H : Hp} {r : List Int} {v : V} (h : Rp K B H (rowT r) v) : Dp K H v (.tuple (r.map PyData.int)) := by
  obtain ⟨a, xs, rfl, na, s, t⟩ := rp_tup.mp h
  rw [ints_of t] at s
  refine .tup s ?_
  clear s t h
  induction r with
  | nil => exact .nil
  | cons i r ih => exact .cons (.int i) ih
noncomputable def aSortR (K : PySem.W.Frag) : AC K := ⟨rSortR K, sortRF, fun {B as k} h => by
  unfold sortRF at h
  split at h
  · obtain ⟨rs, rfl, hne, hl, hk⟩ := h
    refine ⟨_, hk, fun H1 xs al h Q q => ?_⟩
    obtain ⟨y, r, rfl, h1, h2⟩ := rpa_cons.mp h
    obtain rfl := rpa_nil.mp h2
    obtain ⟨a, xs, rfl, na, s, t⟩ := rp_lst.mp h1
    obtain ⟨bs, rfl, rfl, hb⟩ := rows_of t
    refine ⟨a, bs, rfl, SqL.of s, fun b h => dp_row (hb b h), fun b h => hne _ (List.mem_map.mpr ⟨b, h, rfl⟩), ?_, fun p np => ?_⟩
    · rw [List.length_map] at hl
      exact Nat.le_trans hl (by decide)
    · refine q _ _ (same_new np) (rp_lst.mpr ⟨p, _, rfl, al.new np, upd_same, ?_⟩)
      have e : sortR (bs.map Prod.snd) = (bs.mergeSort fun x y => decide (x.2 ≤ y.2)).map Prod.snd := (List.map_mergeSort (s := fun x y : List Int => decide (x ≤ y)) (f := Prod.snd) fun _ _ _ _ => rfl).symm
      rw [e]
      refine rpa_map fun b hb' => ?_
      exact (hb b ((List.mergeSort_perm _ _).mem_iff.mp hb')).up (Xt.of al (same_new np))
  · exact h.elim⟩
theorem f_aSortR : (aSortR K).f = sortRF := rfl
theorem t_aSortR : (aSortR K).r = rSortR K := rfl
end
section
variable {K : PySem.W.Frag}
theorem set_at {α : Type} {l : List α} {i : Nat} {x : α} (h : l[i]? = some x) : l.set i x = l := by
  obtain ⟨hi, rfl⟩ := List.getElem?_eq_some_iff.mp h
  exact List.set_getElem_self hi
noncomputable def AS.ext (i : Nat) (a : AF K) : AS K := ⟨tAug i a.te rExt2, fun e t k => owS e[i]? fun ds => a.wp e t fun es t1 => ds.length + es.length ≤ 100000 ∧ k.nx (e.set i (.own (ds ++ es))) t1, fun {m B0 B1 H0 H1 Dd k} c {B e σ H t} f r h => by
  obtain ⟨ds, p, vs, e1, e2, b, b0, np, hp, ra, h⟩ := r.own h
  refine ⟨.ref p, e2, a.ok r h _ fun L es ws H2 t2 nL x2 k2 h2 hL r2 => ?_⟩
  have s2 := r.up x2 k2
  have ra2 := ra.up (r.wd x2)
  have r3 : RpA K B H2 es ws := RpA.less bp_up _ _ r2
  refine ⟨p, L, vs, ws, rfl, rfl, x2.kp _ _ np hp, hL, by rw [← ra.length, ← r2.length]; exact Nat.le_trans h2.1 (by decide), ?_⟩
  show Dd.nx (σ.set i (some (V.ref p))) _
  rw [set_at e2]
  exact c.nx ((f.step r x2).put s2 b b0 np) (s2.put e1 e2 b np (RpA.append ra2 r3)) h2.2⟩
theorem Rep.under0 {m : Dck} {B0 B : Addr → Prop} {e : En} {σ : L2.St} {H H1 : Hp} {t t' : Tq} {L : Addr} (r : Rep K m B0 B e σ H t) (n : H L = none) (x : Xt m.pl H H1) (k : m.ok H1 t') (h1 : Lv (H1 L)) : Rep K m (Bp B0 L) (Bp B L) e σ H1 t' := by
  have g : Gw B (Bp B L) H := gw_new n
  have al : Al (Bp B L) H1 := fun a h => h.elim (fun b => (xt_wd r.al r.pb x).al a b) fun e => e ▸ h1
  have y : Xt (Bp B L) H H1 := ⟨fun a u nb e => x.kp a u (fun z => nb (.inl (r.pb a z))) e, al⟩
  refine ⟨al, fun a p => .inl (r.pb a p), fun a p => p.elim (fun z => .inl (r.b0 a z)) .inr, k, r.ln, fun i => ?_, r.ow⟩
  have h := RepS.grow g (r.sl i)
  revert h
  generalize e[i]? = y
  generalize σ[i]? = z
  intro h
  match y, h with
  | some (.dat d), h =>
    obtain ⟨v, rfl, r⟩ := h
    exact ⟨v, rfl, r.up (by assumption)⟩
  | some (.own ds), h =>
    obtain ⟨p, vs, rfl, b, b0, np, hp, r⟩ := h
    refine ⟨p, vs, rfl, b, fun z => z.elim b0 fun w => ?_, np, x.kp p _ np hp, r.up (by assumption)⟩
    rw [w, n] at hp
    cases hp
  | some (.deck M), h => exact h
  | some (.ptr _ M), h => exact h
  | some (.fn _ _ _ _ _), h => exact ⟨⟨h.1.1, x.kp _ _ (fun b => h.1.2.2 (h.1.2.1 ▸ r.al _ (r.pb _ b))) h.1.2.1, h.1.2.2⟩, h.2.up (by assumption)⟩
  | some .un, _ => trivial
  | none, _ => trivial
/-- only L and the deck have changed -/
structure Off (m : Dck) (L : Addr) (H H1 : Hp) : Prop where
  kp : ∀ a o, a ≠ L → ¬ m.pl a → H a = some o → H1 a = some o
theorem Off.trans {m : Dck} {L : Addr} {H H1 H2 : Hp} (x : Off m L H H1) (y : Off m L H1 H2) : Off m L H H2 := ⟨fun a o h1 h2 h3 => y.kp a o h1 h2 (x.kp a o h1 h2 h3)⟩
theorem Off.of {m : Dck} {L : Addr} {H H1 : Hp} (x : Xt m.pl H H1) : Off m L H H1 := ⟨fun a o _ h2 h3 => x.kp a o h2 h3⟩
theorem Rep.chg {m : Dck} {B0 B : Addr → Prop} {e : En} {σ : L2.St} {H H1 : Hp} {t t' : Tq} {L : Addr} (r : Rep K m (Bp B0 L) B e σ H t) (x : Off m L H H1) (k : m.ok H1 t') (h1 : Lv (H1 L)) : Rep K m (Bp B0 L) B e σ H1 t' := by
  have bL : B L := r.b0 L (.inr rfl)
  have y : Xt B H H1 := ⟨fun a u nb e => x.kp a u (fun z => nb (z ▸ bL)) (fun z => nb (r.pb a z)) e, fun a h => by
    by_cases z : a = L
    · rw [z]; exact h1
    · by_cases w : m.pl a
      · exact m.live k w
      · cases q : H a with
        | none => exact absurd q (r.al a h).ne
        | some o => have zz := r.al a h; rw [q] at zz; rw [x.kp a o z w q]; exact zz⟩
  refine ⟨y.al, r.pb, r.b0, k, r.ln, fun i => ?_, r.ow⟩
  have h := r.sl i
  revert h
  generalize e[i]? = y
  generalize σ[i]? = z
  intro h
  match y, h with
  | some (.dat d), h =>
    obtain ⟨v, rfl, r⟩ := h
    exact ⟨v, rfl, r.up (by assumption)⟩
  | some (.own ds), h =>
    obtain ⟨p, vs, rfl, b, b0, np, hp, r⟩ := h
    exact ⟨p, vs, rfl, b, b0, np, x.kp p _ (fun z => b0 (.inr z)) np hp, r.up (by assumption)⟩
  | some (.deck M), h => exact h
  | some (.ptr _ M), h => exact h
  | some (.fn _ _ _ _ _), h => exact ⟨⟨h.1.1, x.kp _ _ (fun e => h.1.2.2 (h.1.2.1 ▸ r.al _ (e ▸ bL))) (fun b => h.1.2.2 (h.1.2.1 ▸ r.al _ (r.pb _ b))) h.1.2.1, h.1.2.2⟩, h.2.up (by assumption)⟩
  | some .un, _ => trivial
  | none, _ => trivial
/-- [a for g in it if c for g1 in it1 if c1] -/
noncomputable def AF.lc2 (it : AI K) (g : AG K) (c : AT K) (it1 : AI K) (g1 : AG K) (c1 : AT K) (a : AE K) (vs vs1 : List Nat) (hs : ∀ j ∈ g.sl, j ∈ vs) (hs1 : ∀ j ∈ g1.sl, j ∈ vs1) : AF K :=
  ⟨tLc2 it.ti g.tg c.tt it1.ti g1.tg c1.tt a.te vs vs1, fun e t k => it.wp e t fun ds t1 => ds.length ≤ 10000 ∧ ∃ I : Nat → List PyData → Tq → Prop, I 0 [] t1 ∧
    (∀ (i : Nat) d acc t', ds[i]? = some d → I i acc t' → g.wp d (wipeE e vs) fun e2 => c.wp e2 t' fun b t3 => if b = true then it1.wp e2 t3 fun ds1 t4 => ds1.length ≤ 1000 ∧ ∃ I1 : Nat → List PyData → Tq → Prop, I1 0 acc t4 ∧
      (∀ (j : Nat) d1 acc1 t5, ds1[j]? = some d1 → I1 j acc1 t5 → g1.wp d1 (wipeE e2 vs1) fun e3 => c1.wp e3 t5 fun b t6 => if b = true then a.wp e3 t6 fun x t7 => I1 (j + 1) (acc1 ++ [x]) t7 else I1 (j + 1) acc1 t6) ∧
      ∀ acc1 t5, I1 ds1.length acc1 t5 → I (i + 1) acc1 t5 else I (i + 1) acc t3) ∧
    ∀ acc t', I ds.length acc t' → k acc t', fun {m B0 B e σ H t k} r h Q q => by
  refine it.ok r h _ fun J ds H1 t1 x1 k1 h1 sq => ?_
  obtain ⟨hl, I, i0, is, ie⟩ := h1
  intro L nL
  have r1 := r.up x1 k1
  have nB : ¬ B L := r1.al.new nL
  have nP : ¬ m.pl L := fun z => nB (r.pb L z)
  have gw : Gw B (Bp B L) H1 := gw_new nL
  refine ⟨fun i mm H' => mm = ds.length - i ∧ i ≤ ds.length ∧ ∃ acc ws t', I i acc t' ∧ Xt m.pl H1 H' ∧ m.ok H' t' ∧ H' L = some (.lst ws) ∧ RpA K (Bp B L) H' acc ws ∧ acc.length ≤ 1000 * i, ⟨ds.length, by simp, Nat.zero_le _, [], [], t1, i0, m.xs k1 (same_new nL), m.same k1 (same_new nL), upd_same, RpA.nil, Nat.le_refl _⟩, ?_⟩
  rintro i mm H' ⟨rfl, hi, acc, ws, t', hI, x', k', hL, ra, hal⟩
  have rep := r1.under0 nL x' k' (by rw [hL]; first | exact trivial | simp)
  have xw : Xt (Bp B L) H1 H' := ⟨fun a u nb e => x'.kp a u (fun z => nb (.inl (r.pb a z))) e, rep.al⟩
  by_cases hlt : i < ds.length
  · refine .inr ⟨sq.go i H' _ hlt gw xw, fun H'' => ∃ acc ws t', I (i + 1) acc t' ∧ Xt m.pl H1 H'' ∧ m.ok H'' t' ∧ H'' L = some (.lst ws) ∧ RpA K (Bp B L) H'' acc ws ∧ acc.length ≤ 1000 * (i + 1), fun H'' p => ⟨ds.length - (i + 1), by omega, rfl, hlt, p⟩, fun x H3 y => ?_⟩
    obtain ⟨s3, rx⟩ := sq.yl i ds[i] x H' H3 _ (List.getElem?_eq_getElem hlt) gw xw y
    have rep3 := rep.same s3
    refine g.ok (rep3.wipe vs) rx (is i ds[i] acc t' (List.getElem?_eq_getElem hlt) hI) _ fun e2 σ2 hk2 rep4 hln hof => ⟨?_, ?_⟩
    · have e1 : L2.wipe σ2 vs = L2.wipe (L2.wipe σ vs) vs := wipe_eq hln fun j hj => hof j fun z => hj (hs j z)
      rw [e1]
      exact wipe_eq (wipe_length _ _) fun j hj => wipe_off hj
    · refine c.ok rep4 hk2 _ fun b H5 t5 x5 k5 h5 => ?_
      have rep5 := rep4.up x5 k5
      have x15 : Xt m.pl H1 H5 := (x'.trans (m.xs rep.ok s3)).trans x5
      have hL5 : H5 L = some (.lst ws) := x5.kp _ _ nP (s3 _ _ hL)
      have ra5 := (ra.up (Xt.of rep.al s3)).up (rep3.wd x5)
      cases b with
      | false =>
        rw [if_neg (by decide)] at h5 ⊢
        exact ⟨acc, ws, t5, h5, x15, k5, hL5, ra5, by omega⟩
      | true =>
        rw [if_pos rfl] at h5 ⊢
        refine it1.ok rep5 h5 _ fun J1 ds1 H6 t6 x6 k6 h6 sq1 => ?_
        obtain ⟨hl1, I1, j0, js, je⟩ := h6
        have rep6 := rep5.up x6 k6
        have hL6 : H6 L = some (.lst ws) := x6.kp _ _ nP hL5
        have ra6 := ra5.up (rep5.wd x6)
        have x16 : Xt m.pl H1 H6 := x15.trans x6
        refine ⟨fun j mm H' => mm = ds1.length - j ∧ j ≤ ds1.length ∧ ∃ acc1 ws1 t', I1 j acc1 t' ∧ Off m L H6 H' ∧ m.ok H' t' ∧ H' L = some (.lst ws1) ∧ RpA K (Bp B L) H' acc1 ws1 ∧ acc1.length ≤ 1000 * i + j, ⟨ds1.length, by simp, Nat.zero_le _, acc, ws, t6, j0, ⟨fun _ _ _ _ e => e⟩, k6, hL6, ra6, by omega⟩, ?_⟩
        rintro j mm H7 ⟨rfl, hj, acc1, ws1, t7, hI1, x7, k7, hL7, ra7, hal7⟩
        have rep7 := rep6.chg x7 k7 (by rw [hL7]; first | exact trivial | simp)
        have xw7 : Xt (Bp B L) H6 H7 := ⟨fun a u nb e => x7.kp a u (fun z => nb (.inr z)) (fun z => nb (.inl (r.pb a z))) e, rep7.al⟩
        have gw7 : Gw (Bp B L) (Bp B L) H6 := ⟨fun _ h => h, fun _ h => .inl h⟩
        by_cases hlt1 : j < ds1.length
        · refine .inr ⟨sq1.go j H7 _ hlt1 gw7 xw7, fun H'' => ∃ acc1 ws1 t', I1 (j + 1) acc1 t' ∧ Off m L H6 H'' ∧ m.ok H'' t' ∧ H'' L = some (.lst ws1) ∧ RpA K (Bp B L) H'' acc1 ws1 ∧ acc1.length ≤ 1000 * i + (j + 1), fun H'' p => ⟨ds1.length - (j + 1), by omega, rfl, hlt1, p⟩, fun x H8 y => ?_⟩
          obtain ⟨s8, rx8⟩ := sq1.yl j ds1[j] x H7 H8 _ (List.getElem?_eq_getElem hlt1) gw7 xw7 y
          have rep8 := rep7.same s8
          refine g1.ok (rep8.wipe vs1) rx8 (js j ds1[j] acc1 t7 (List.getElem?_eq_getElem hlt1) hI1) _ fun e3 σ3 hk3 rep9 hln3 hof3 => ⟨?_, ?_⟩
          · have e1 : L2.wipe σ3 vs1 = L2.wipe (L2.wipe σ2 vs1) vs1 := wipe_eq hln3 fun j hj => hof3 j fun z => hj (hs1 j z)
            rw [e1]
            exact wipe_eq (wipe_length _ _) fun j hj => wipe_off hj
          · refine c1.ok rep9 hk3 _ fun b H10 t10 x10 k10 h10 => ?_
            have rep10 := rep9.up x10 k10
            have of10 : Off m L H6 H10 := (x7.trans (Off.of (m.xs rep7.ok s8))).trans (Off.of x10)
            have hL10 : H10 L = some (.lst ws1) := x10.kp _ _ nP (s8 _ _ hL7)
            have ra10 := (ra7.up (Xt.of rep7.al s8)).up (rep8.wd x10)
            cases b with
            | true =>
              rw [if_pos rfl] at h10 ⊢
              refine a.ok rep10 h10 _ fun z d H11 t11 x11 k11 h11 r11 => ?_
              have hL11 : H11 L = some (.lst ws1) := x11.kp _ _ nP hL10
              have al11 := (rep10.up x11 k11).al
              have y11 : Xt (Bp B L) H11 (upd H11 L (.lst (ws1 ++ [z]))) := xt_put al11
              refine ⟨ws1, hL11, ?_, acc1 ++ [d], ws1 ++ [z], t11, h11, (of10.trans (Off.of x11)).trans ⟨fun b o hb _ e => by rw [upd_ne hb]; exact e⟩, m.putV k11 nP (by rw [hL11]; exact trivial), upd_same, ?_, by rw [List.length_append]; show acc1.length + 1 ≤ _; omega⟩
              · rw [← ra7.length]
                exact Nat.lt_of_lt_of_le (show acc1.length < 10001001 by omega) (by decide)
              · exact RpA.append ((ra10.up (rep10.wd x11)).up y11) (.cons (r11.up y11) .nil)
            | false =>
              rw [if_neg (by decide)] at h10 ⊢
              exact ⟨acc1, ws1, t10, h10, of10, k10, hL10, ra10, by omega⟩
        · have e1 : j = ds1.length := by omega
          subst e1
          refine .inl ⟨sq1.st H7 _ gw7 xw7, acc1, ws1, t7, je acc1 t7 hI1, ⟨fun b o nb e => ?_, fun b hb => m.live k7 hb⟩, k7, hL7, ra7, by omega⟩
          exact x7.kp b o (ne_of_none e nL) nb (x16.kp b o nb e)
  · have e1 : i = ds.length := by omega
    subst e1
    exact .inl ⟨sq.st H' _ gw xw, q L acc ws H' t' (none_back r.ok x1 nL) (x1.trans x') k' (ie acc t' hI) hL ra⟩⟩
theorem w_lc2 {it : AI K} {g : AG K} {c : AT K} {it1 : AI K} {g1 : AG K} {c1 : AT K} {a : AE K} {vs vs1 : List Nat} {hs : ∀ j ∈ g.sl, j ∈ vs} {hs1 : ∀ j ∈ g1.sl, j ∈ vs1} {e : En} {t : Tq} {k : List PyData → Tq → Prop} : (AF.lc2 it g c it1 g1 c1 a vs vs1 hs hs1).wp e t k = it.wp e t fun ds t1 => ds.length ≤ 10000 ∧ ∃ I : Nat → List PyData → Tq → Prop, I 0 [] t1 ∧
    (∀ (i : Nat) d acc t', ds[i]? = some d → I i acc t' → g.wp d (wipeE e vs) fun e2 => c.wp e2 t' fun b t3 => if b = true then it1.wp e2 t3 fun ds1 t4 => ds1.length ≤ 1000 ∧ ∃ I1 : Nat → List PyData → Tq → Prop, I1 0 acc t4 ∧
      (∀ (j : Nat) d1 acc1 t5, ds1[j]? = some d1 → I1 j acc1 t5 → g1.wp d1 (wipeE e2 vs1) fun e3 => c1.wp e3 t5 fun b t6 => if b = true then a.wp e3 t6 fun x t7 => I1 (j + 1) (acc1 ++ [x]) t7 else I1 (j + 1) acc1 t6) ∧
      ∀ acc1 t5, I1 ds1.length acc1 t5 → I (i + 1) acc1 t5 else I (i + 1) acc t3) ∧
    ∀ acc t', I ds.length acc t' → k acc t' := rfl
theorem t_lc2 {it : AI K} {g : AG K} {c : AT K} {it1 : AI K} {g1 : AG K} {c1 : AT K} {a : AE K} {vs vs1 : List Nat} {hs : ∀ j ∈ g.sl, j ∈ vs} {hs1 : ∀ j ∈ g1.sl, j ∈ vs1} : (AF.lc2 it g c it1 g1 c1 a vs vs1 hs hs1).te = tLc2 it.ti g.tg c.tt it1.ti g1.tg c1.tt a.te vs vs1 := rfl
end
theorem pi_tupK {X : Cx} {K : PySem.W.Frag} {l tg : Expr} {tl : TE} (hl : PE X l tl) (hK : X.K = K := by rfl) : PI X tg l (iTup K tl) := hK ▸ pi_tup hl
theorem pi_listK {X : Cx} {K : PySem.W.Frag} {l tg : Expr} {tl : TE} (hl : PE X l tl) (hK : X.K = K := by rfl) : PI X tg l (iList K tl) := hK ▸ pi_list hl
end CG
namespace CG
open PySem PySem.Spec PyProof.Rows L2
noncomputable def srcs (cs : List Ctr) (is : List Nat) : List Int := is.map fun i => (ctr cs i).s
section
variable {cs : List Ctr} {k : Int} {is r : List Nat} {j x : Nat} {n : Int}
noncomputable def exts (cs : List Ctr) (k : Int) (is : List Nat) : List (List Nat) := ((List.range cs.length).filter fun j => decide ((ctr cs j).s = endK cs k is)).map fun j => is ++ [j]
noncomputable def ext (cs : List Ctr) (k : Int) (ps : List (List Nat)) : List (List Nat) := ps.flatMap (exts cs k)
structure SL (cs : List Ctr) (k : Int) (r : List Nat) : Prop where
  ne : r ≠ []
  rt : Rt cs k r
  en : endK cs k r = k
  nd : (srcs cs r).Nodup
noncomputable def rts (cs : List Ctr) : Nat → List (List Nat)
  | 0 => (List.range cs.length).map fun i => [i]
  | x + 1 => ext cs 0 (rts cs x)
noncomputable def isl (cs : List Ctr) (r : List Nat) : Bool := decide (endK cs 0 r = (ctr cs (hd0 r)).s)
noncomputable def fnd (cs : List Ctr) : Nat → List (List Nat)
  | 0 => []
  | x + 1 => fnd cs x ++ (rts cs x).filter (isl cs)
/-- a simple loop has at most so many counters as there are kinds -/
theorem SL.len (h : SL cs k r) {m : Nat} (hk : ∀ c ∈ cs, 0 ≤ c.s ∧ c.s < (m : Int)) : r.length ≤ m := by
  have h1 : (srcs cs r).length ≤ ((List.range m).map fun i : Nat => (i : Int)).length := by
    refine List.Nodup.length_le_of_subset h.nd fun x hx => ?_
    obtain ⟨i, hi, rfl⟩ := List.mem_map.mp hx
    obtain ⟨a, b⟩ := hk _ (ctr_mem (h.rt.inC i hi))
    exact List.mem_map.mpr ⟨(ctr cs i).s.toNat, List.mem_range.mpr (by omega), by omega⟩
  simpa [srcs] using h1
theorem SL.hd (h : SL cs k r) : (ctr cs (hd0 r)).s = k := by
  cases r with
  | nil => exact absurd rfl h.ne
  | cons i r => exact h.rt.2.1
end
end CG
namespace CG
open PySem PySem.Spec PyProof.Rows L2
section
variable {K : PySem.W.Frag}
noncomputable def zipD (xs ys : List PyData) : List PyData := (xs.zip ys).map fun p => .tuple [p.1, p.2]
noncomputable def unTT : List PyData → (List PyData → List PyData → Prop) → Prop
  | [.tuple xs, .tuple ys], k => k xs ys
  | _, _ => False
theorem zipD_get {xs ys : List PyData} {i : Nat} {d : PyData} (h : (zipD xs ys)[i]? = some d) : ∃ x y, xs[i]? = some x ∧ ys[i]? = some y ∧ d = .tuple [x, y] := by
  unfold zipD at h
  rw [List.getElem?_map] at h
  cases q : (xs.zip ys)[i]? with
  | none => rw [q] at h; cases h
  | some p =>
    rw [q] at h
    cases h
    obtain ⟨a, b⟩ := List.getElem?_zip_eq_some.mp q
    exact ⟨_, _, a, b, rfl⟩
theorem zipD_length {xs ys : List PyData} : (zipD xs ys).length = min xs.length ys.length := by unfold zipD; rw [List.length_map, List.length_zip]
theorem sq_zipT {B : Addr → Prop} {H : Hp} {a b : Addr} {xs ys : List V} {ds es : List PyData} (na : ¬ B a ∨ KT K a xs) (s : SqT K H a xs) (t : RpA K B H ds xs) (nb : ¬ B b ∨ KT K b ys) (s2 : SqT K H b ys) (t2 : RpA K B H es ys) : Sq K (RZ.ItzT K a b) B H (zipD ds es) := by
  have l1 := t.length
  have l2 := t2.length
  refine ⟨fun i H' B' hi g x => ?_, fun H' B' g x => ⟨xs, ys, sqT_on na s g x, sqT_on nb s2 g x, by rw [zipD_length]; omega⟩, fun i d y H' H3 B' hd g x z => ?_⟩
  · rw [zipD_length] at hi
    obtain ⟨y, hy, _⟩ := t.get (i := i) (d := ds[i]) (List.getElem?_eq_getElem (by omega))
    obtain ⟨y2, hy2, _⟩ := t2.get (i := i) (d := es[i]) (List.getElem?_eq_getElem (by omega))
    exact ⟨xs, ys, y, y2, sqT_on na s g x, sqT_on nb s2 g x, hy, hy2⟩
  · obtain ⟨T, x', y', rfl, nT, rfl, z1, z2⟩ := z
    obtain ⟨w, w2, hw, hw2, rfl⟩ := zipD_get hd
    obtain ⟨u, hu, ru⟩ := t.get hw
    obtain ⟨u2, hu2, ru2⟩ := t2.get hw2
    have e := z1 xs (sqT_on na s g x)
    rw [hu] at e
    cases e
    have e := z2 ys (sqT_on nb s2 g x)
    rw [hu2] at e
    cases e
    have s3 : Same H' (upd H' T (.tup [x', y'])) := same_new nT
    exact ⟨s3, rp_tup.mpr ⟨T, _, rfl, .inl (x.al.new nT), SqT.of upd_same, .cons (((Rp.grow g _ _ ru).up x).up (Xt.of x.al s3)) (.cons (((Rp.grow g _ _ ru2).up x).up (Xt.of x.al s3)) .nil)⟩⟩
noncomputable def AI.zip (a : AA K) : AI K := ⟨RZ.iZipA K a.ta, fun e t k => a.wp e t fun ds t1 => unTT ds fun xs ys => k (zipD xs ys) t1, fun {m B0 B e σ H t k} r h R q =>
  a.ok r h _ fun vs ds H1 t1 x1 k1 h1 r1 => by
    unfold unTT at h1
    split at h1
    · obtain ⟨v, w, rfl, rv, rw⟩ := rpa_cons.mp r1
      obtain ⟨v2, w2, rfl, rv2, rw2⟩ := rpa_cons.mp rw
      obtain rfl := rpa_nil.mp rw2
      obtain ⟨a, xs, rfl, na, s, t⟩ := rp_tup.mp rv
      obtain ⟨b, ys, rfl, nb, s2, t2⟩ := rp_tup.mp rv2
      exact ⟨a, b, xs, ys, rfl, .inr ⟨s, s2, q _ _ H1 t1 x1 k1 h1 (sq_zipT na s t nb s2 t2)⟩⟩
    · exact h1.elim⟩
theorem q_unTT {xs ys : List PyData} {k : List PyData → List PyData → Prop} : unTT [.tuple xs, .tuple ys] k = k xs ys := rfl
theorem RpA.dropL {B : Addr → Prop} {H : Hp} {ds : List PyData} {d : PyData} {xs : List V} (h : RpA K B H (ds ++ [d]) xs) : ∃ y, xs[xs.length - 1]? = some y ∧ Rp K B H d y ∧ RpA K B H ds xs.dropLast := by
  have hl := h.length
  rw [List.length_append, List.length_singleton] at hl
  obtain ⟨y, hy, ry⟩ := h.get (i := ds.length) (d := d) (by simp)
  have h2 := RpA.take ds.length h
  rw [List.take_left'  rfl] at h2
  refine ⟨y, by rw [← hl]; exact hy, ry, ?_⟩
  rw [List.dropLast_eq_take, ← hl]
  exact h2
end
section
variable {K : PySem.W.Frag}
noncomputable def unL0 : PyData → (List PyData → Prop) → Prop
  | .list ds, k => k ds
  | _, _ => False
theorem q_unL0 {ds : List PyData} {k : List PyData → Prop} : unL0 (.list ds) k = k ds := rfl
noncomputable def AF.rep (a : AF K) (b : AE K) : AF K := ⟨tOp (rMulU K) a.te b.te, fun e t k => a.wp e t fun ds t1 => b.wp e t1 fun y t2 => unI y fun n => (0 ≤ n ∧ n ≤ 1000 ∧ ds.length ≤ 1000) ∧ k (List.replicate n.toNat ds).flatten t2, fun {m B0 B e σ H t k} r h Q q => by
  refine a.ok r h _ fun L ds vs H2 t2 nL x2 k2 h2 hL ra => ?_
  have s2 := r.up x2 k2
  refine b.ok s2 h2 _ fun w y H3 t3 x3 k3 h3 r3 => ?_
  obtain ⟨n, rfl, ⟨n0, n1, nl⟩, h3⟩ := unI_of h3
  have nP : ¬ m.pl L := fun z => r.al.new nL (r.pb L z)
  have ra2 : RpA K B H3 ds vs := (RpA.less bp_up _ _ ra).up (s2.wd x3)
  refine .inr (.inr ⟨L, n, vs, rfl, rp_int.mp r3, x3.kp _ _ nP hL, by omega, by omega, ?_, fun p np => ?_⟩)
  · rw [← ra.length]
    exact Nat.le_trans (Nat.mul_le_mul nl (show n.toNat ≤ 1000 by omega)) (by decide)
  · have s := same_new (o := .lst (List.replicate n.toNat vs).flatten) np
    have s3 := s2.up x3 k3
    have np0 : H p = none := none_back r.ok (x2.trans x3) np
    exact q p _ _ _ t3 np0 ((x2.trans x3).trans (m.xs k3 s)) (m.same k3 s) h3 upd_same ((RpA.grow (gw_new np) _ _ (rpa_flat ra2 _)).up ⟨fun a o _ e => s a o e, al_new s3.al⟩)⟩
end
end CG
namespace CG
open PySem PySem.Spec PyProof.Rows L2
noncomputable abbrev Num := Option Int
noncomputable abbrev Vec := Int → Num
noncomputable def nle (a b : Num) : Prop := ∀ y, b = some y → ∃ x, a = some x ∧ x ≤ y
noncomputable def vle (x y : Vec) : Prop := ∀ j, nle (x j) (y j)
theorem nle_refl (a : Num) : nle a a := fun y h => ⟨y, h, Int.le_refl _⟩
theorem nle_trans {a b c : Num} (h : nle a b) (k : nle b c) : nle a c := fun y hy => by
  obtain ⟨x, hx, l⟩ := k y hy
  obtain ⟨w, hw, l2⟩ := h x hx
  exact ⟨w, hw, by omega⟩
theorem vle_refl (x : Vec) : vle x x := fun j => nle_refl _
theorem vle_trans {x y z : Vec} (h : vle x y) (k : vle y z) : vle x z := fun j => nle_trans (h j) (k j)
noncomputable def nmax : Num → Num → Num
  | some a, some b => some (if a < b then b else a)
  | _, _ => none
noncomputable def fc (c : Ctr) (a : Num) : Num := a.map fun x => x / c.g * c.e
/-- one counter: x what is handed in, y what has been found -/
noncomputable def rel (c : Ctr) (x y : Vec) : Vec := fun j => if j = c.t then nmax (y j) (fc c (x c.s)) else y j
noncomputable def s0 (k a : Int) : Vec := fun j => if j = k then some a else some 0
end CG
namespace CG
open PySem PySem.Spec PyProof.Rows L2
section
variable {K : PySem.W.Frag}
noncomputable def unTL : List PyData → (List PyData → List PyData → Prop) → Prop
  | [.tuple xs, .list ys], k => k xs ys
  | _, _ => False
theorem q_unTL {xs ys : List PyData} {k : List PyData → List PyData → Prop} : unTL [.tuple xs, .list ys] k = k xs ys := rfl
end
end CG
namespace CG
open PySem PySem.Spec PyProof.Rows L2
noncomputable def Lead (cs : List Ctr) (k t : Int) : Prop := ∃ r, Rt cs k r ∧ endK cs k r = t
/-- the least that a counter wants -/
noncomputable def lbf (c : Ctr) (w : Int) : Int := c.g * ((w + c.e - 1) / c.e)
theorem lbf_iff {c : Ctr} {n : Int} (hc : c.Ok n) {w x : Int} : lbf c w ≤ x ↔ w ≤ x / c.g * c.e := by
  have g0 := hc.g0
  have e0 := hc.e0
  unfold lbf
  constructor
  · intro h
    have h1 : (w + c.e - 1) / c.e ≤ x / c.g := (Int.le_ediv_iff_mul_le (by omega)).mpr (by rw [Int.mul_comm]; exact h)
    have h2 : w ≤ (w + c.e - 1) / c.e * c.e := by
      have a := Int.emod_add_mul_ediv (w + c.e - 1) c.e
      have b := Int.emod_lt_of_pos (w + c.e - 1) (show 0 < c.e by omega)
      rw [Int.mul_comm] at a
      omega
    exact Int.le_trans h2 (Int.mul_le_mul_of_nonneg_right h1 (by omega))
  · intro h
    have h1 : (w + c.e - 1) / c.e ≤ x / c.g := by
      have a : w + c.e - 1 < (x / c.g + 1) * c.e := by rw [Int.add_mul, Int.one_mul]; omega
      have := Int.ediv_lt_of_lt_mul (show 0 < c.e by omega) a
      omega
    have h2 : x / c.g * c.g ≤ x := Int.ediv_mul_le x (by omega)
    have h3 := Int.mul_le_mul_of_nonneg_right h1 (show 0 ≤ c.g by omega)
    rw [Int.mul_comm]
    omega
noncomputable def nmin : Num → Num → Num
  | none, b => b
  | a, none => a
  | some a, some b => some (if b < a then b else a)
theorem nmin_l (a b : Num) : nle (nmin a b) a := fun y h => by
  subst h
  cases b with
  | none => exact ⟨y, rfl, Int.le_refl _⟩
  | some b => exact ⟨_, rfl, by split <;> omega⟩
theorem nmin_r (a b : Num) : nle (nmin a b) b := fun y h => by
  subst h
  cases a with
  | none => exact ⟨y, rfl, Int.le_refl _⟩
  | some a => exact ⟨_, rfl, by split <;> omega⟩
noncomputable def relN (c : Ctr) (u y : Vec) : Vec := fun j => if j = c.s then nmin (y j) ((u c.t).map (lbf c)) else y j
noncomputable def foldN (cs : List Ctr) (u y : Vec) : Vec := cs.foldl (fun y c => relN c u y) y
theorem relN_le {c : Ctr} {u y : Vec} : vle (relN c u y) y := fun j => by
  unfold relN
  split
  · exact nmin_l _ _
  · exact nle_refl _
theorem foldN_le : ∀ {cs : List Ctr} {u y : Vec}, vle (foldN cs u y) y
  | [], _, _ => vle_refl _
  | c :: cs, u, y => vle_trans (foldN_le (cs := cs)) relN_le
theorem foldN_has : ∀ {cs : List Ctr} {u y : Vec} {c : Ctr}, c ∈ cs → nle (foldN cs u y c.s) ((u c.t).map (lbf c))
  | c :: cs, u, y, d, h => by
    rcases List.mem_cons.mp h with rfl | h
    · refine nle_trans (foldN_le (cs := cs) _) ?_
      show nle (relN d u y d.s) _
      unfold relN
      rw [if_pos rfl]
      exact nmin_r _ _
    · exact foldN_has (cs := cs) h
open Classical in
noncomputable def u0 (cs : List Ctr) (st : Vec) (t w : Int) : Vec := fun j => nmin (if j = t then some w else none) (if Lead cs j t then st j else none)
noncomputable def us (cs : List Ctr) (st : Vec) (t w : Int) : Nat → Vec
  | 0 => u0 cs st t w
  | i + 1 => foldN cs (us cs st t w i) (us cs st t w i)
end CG
namespace CG
open PySem PySem.Spec PyProof.Rows L2
section
variable {cs : List Ctr} {m : Nat} {n : Int} {st : Vec}
noncomputable def Enough (a : Int) (x : Num) : Prop := ∃ v, x = some v ∧ v ≤ a
noncomputable def rws (cs : List Ctr) (u : Vec) : Nat → Vec
  | 0 => u
  | i + 1 => foldN cs (rws cs u i) (rws cs u i)
theorem Enough.le {a : Int} {x y : Num} (h : Enough a x) (l : nle y x) : Enough a y := by
  obtain ⟨v, rfl, h⟩ := h
  obtain ⟨w, hw, l⟩ := l v rfl
  exact ⟨w, hw, by omega⟩
/-- no counter leads to what is enough earlier -/
theorem rws_back {u : Vec} {a : Int} {i : Nat} {c : Ctr} (hok : ∀ c ∈ cs, c.Ok n) (hc : c ∈ cs) (h : Enough (a / c.g * c.e) (rws cs u i c.t)) : Enough a (rws cs u (i + 1) c.s) := by
  obtain ⟨w, hw, l⟩ := h
  obtain ⟨x, hx, l2⟩ := foldN_has (cs := cs) (u := rws cs u i) (y := rws cs u i) hc (lbf c w) (by rw [hw]; rfl)
  exact ⟨x, hx, Int.le_trans l2 ((lbf_iff (hok c hc)).mpr l)⟩
/-- exactly so many counters are wanted -/
structure At (cs : List Ctr) (u : Vec) (a k : Int) (i : Nat) : Prop where
  yes : Enough a (rws cs u i k)
  no : ∀ j, j < i → ¬ Enough a (rws cs u j k)
theorem At.step {u : Vec} {a k : Int} {i : Nat} {c : Ctr} (hok : ∀ c ∈ cs, c.Ok n) (h : At cs u a k (i + 1)) (hc : c ∈ cs) (hk : c.s = k) (he : Enough (a / c.g * c.e) (rws cs u i c.t)) : At cs u (a / c.g * c.e) c.t i :=
  ⟨he, fun j hj hn => h.no (j + 1) (by omega) (by rw [← hk]; exact rws_back hok hc hn)⟩
end
end CG
namespace CG
open PySem PySem.Spec PyProof.Rows L2
/-- a class as a value -/
noncomputable def clsOf : V → Option Value
  | .ref c => some (.ref c)
  | .ty T => some (.type T)
  | _ => none
theorem clsOf_is {v : V} {u c : Value} (r : RelV v u) (h : clsOf v = some c) : u = c := by
  cases v with
  | ref a =>
    obtain rfl : u = Value.ref a := r
    exact Option.some.inj h
  | ty T =>
    obtain rfl : u = Value.type T := r
    exact Option.some.inj h
  | _ => exact nomatch h
theorem vals_cls : ∀ {vs : List V} {us cs : List Value}, Vals vs us → vs.map clsOf = cs.map some → us = cs
  | [], _, [], .nil, _ => rfl
  | [], _, c :: cs, .nil, h => by simp at h
  | v :: vs, _, [], .cons r t, h => by simp at h
  | v :: vs, _, c :: cs, .cons r t, h => by
    simp only [List.map_cons, List.cons.injEq] at h
    rw [clsOf_is r h.1, vals_cls t h.2]
/-- isinstance(e, c), isinstance(e, (c, ..)), e the error of the class D that the suite holds at a -/
noncomputable def rIsY (K : PySem.W.Frag) (D a : Addr) (dd : Addr) (fs : List (Str × V)) : List V → Hp → VK → Prop := fun xs H Q => H dd = some (.xd fs) ∧
  ((∃ (c : V) (cv : Value) (b : Bool), xs = [.ref a, c] ∧ clsOf c = some cv ∧ PySem.W.kitOne K (.ref D) cv = some b ∧ Q (.bl b) H) ∨
    ∃ (t : Addr) (cs : List V) (cvs : List Value) (b : Bool), xs = [.ref a, .ref t] ∧ H t = some (.tup cs) ∧ cs.map clsOf = cvs.map some ∧ PySem.W.kitAny K (.ref D) cvs = some b ∧ Q (.bl b) H)
theorem call_isY {X : Cx} {a D dd : Addr} {fs : List (Str × V)} {cls : Value} {d : Option Addr} {oe : Obj} {pn : List (Addr × Obj)} (C : ExcC X.K D) (hz : Zc cls d oe) (hf : ∃ vs, oe.data = .fields vs) :
    CallR (X.suite a ((a, oe) :: pn)) (.builtin "isinstance") (fun xs H Q => cls = .ref D ∧ d = some dd ∧ rIsY X.K D a dd fs xs H Q) := by
  intro pins s σ H xs us Q I r h
  obtain ⟨rfl, rfl, hdd, h⟩ := h
  obtain ⟨hget, _⟩ := I.pin (a, oe) (List.mem_append.mpr (.inl List.mem_cons_self))
  obtain ⟨gs, hv⟩ := hf
  have hx : ObjOk X.prog X.w H s.heap dd (.xd fs) := I.hok dd _ hdd
  obtain ⟨mA, hns, hrr⟩ := hx
  obtain ⟨od, ho, hl⟩ := lookIn_ns hns
  have J : PySem.W.InstAt s.heap a oe D (some od) := ⟨hget, hz.1, by unfold PySem.W.notCls; rw [hv] <;> rfl, by rw [hz.2]; exact ho⟩
  have hcl : (PySem.W.clsIn X.K D).isSome = true := by
    obtain ⟨cd, hc, _⟩ := PySem.W.any_some C.hd
    rw [hc]
    rfl
  have Z := PySem.W.kitx_exc (x := a) (ox := oe) (od := some od) (gt := none) hcl C.hg C.hk C.hs C.ha C.hn C.ht C.hm
  rcases h with ⟨c, cv, b, rfl, hc, e, q⟩ | ⟨t, cs, cvs, b, rfl, hT, hc, e, q⟩
  · obtain ⟨u1, u2, rfl, r1, r2⟩ := vals2 r
    obtain rfl : u1 = Value.ref a := r1
    obtain rfl := clsOf_is r2 hc
    exact PySem.W.kia_one Z I.kIn J e (fun z => nomatch z) fun tk => ⟨.bl b, H, I.kept (t' := tk) fun _ _ z => z, rfl, q⟩
  · obtain ⟨u1, u2, rfl, r1, r2⟩ := vals2 r
    obtain rfl : u1 = Value.ref a := r1
    obtain rfl : u2 = Value.ref t := r2
    have hO : ObjOk X.prog X.w H s.heap t (.tup cs) := I.hok t _ hT
    obtain ⟨_, its, rv, o, h1, h2, n, h3⟩ := hO
    obtain rfl := vals_cls rv hc
    obtain ⟨oc, odd, dt, sl⟩ := o
    simp only at h2 h3
    subst h2 h3
    exact PySem.W.kia_tup Z I.kIn J h1 e (fun z => nomatch z) fun tk => ⟨.bl b, H, I.kept (t' := tk) fun _ _ z => z, rfl, q⟩
theorem FnG.or {pr : Program} {wo : World} {K : PySem.W.Frag} {mg : Str → Option Value} {ba : Heap} {cx : CXT} {k : Nat} {f : Addr} {fd : FuncData} {ps : List Str} {sp sp' : Sp} (G : FnG pr wo K mg ba cx k f fd ps sp) (G' : FnG pr wo K mg ba cx k f fd ps sp') :
    FnG pr wo K mg ba cx k f fd ps (fun vs H Q E => sp vs H Q E ∨ sp' vs H Q E) :=
  ⟨fun vs H Q E h => h.elim (G.len vs H Q E) (G'.len vs H Q E), fun A out s H ar us vs Q E hg hr he hb hv hs => hs.elim (G.run A out s H ar us vs Q E hg hr he hb hv) (G'.run A out s H ar us vs Q E hg hr he hb hv)⟩
end CG
namespace CG
open PySem PySem.Spec PyProof.Rows L2
section
variable {K : PySem.W.Frag} {m : Dck} {B0 : Addr → Prop} {H0 : Hp} {fl : Str} {C : Addr} {W : WX} {kx : PyData → Prop}
structure AX (K : PySem.W.Frag) (m : Dck) (B0 : Addr → Prop) (H0 : Hp) where
  ts : TS
  wp : En → Tq → Kn → Prop
  ok : ∀ {B1 : Addr → Prop} {H1 : Hp} {Dd : Ends} {k : Kn}, Cn K m B0 H0 B1 H1 k Dd → ∀ {B : Addr → Prop} {e : En} {σ : L2.St} {H : Hp} {t : Tq}, Fr m B0 H0 B1 H1 B H → Rep K m B0 B e σ H t → wp e t k → ts Dd σ H
/-- what is wanted of the error: kx of its field -/
structure Rz (K : PySem.W.Frag) (m : Dck) (B0 : Addr → Prop) (H0 : Hp) (fl : Str) (C : Addr) (W : WX) (kx : PyData → Prop) : Prop where
  tk : ∀ (σ : L2.St) (H' : Hp) (d : Addr) (v : V) (x : PyData), Xt m.pl H0 H' → kx x → Rp K B0 H' x v → H' d = some (.xd [(fl, v)]) → W (.ref C) (some d) σ H'
noncomputable def AX.of (a : AS K) : AX K m B0 H0 := ⟨a.ts, a.wp, fun {B1 H1 Dd k} c {B e σ H t} f r h => a.ok c f r h⟩
noncomputable def AX.seq (a b : AX K m B0 H0) : AX K m B0 H0 := ⟨tSeq a.ts b.ts, fun e t k => a.wp e t { k with nx := fun e' t' => b.wp e' t' k }, fun {B1 H1 Dd k} c {B e σ H t} f r h =>
  a.ok (Dd := { Dd with nx := b.ts Dd }) (k := { k with nx := fun e' t' => b.wp e' t' k }) ⟨fun f' r' h' => b.ok c f' r' h', c.bk, c.ct, c.rt⟩ f r h⟩
noncomputable def AX.ifS (c : AT K) (a b : AX K m B0 H0) : AX K m B0 H0 := ⟨tIfS c.tt a.ts b.ts, fun e t k => c.wp e t fun z t1 => if z = true then a.wp e t1 k else b.wp e t1 k, fun {B1 H1 Dd k} cn {B e σ H t} f r h =>
  c.ok r h _ fun z H2 t2 x2 k2 h2 => by
    cases z with
    | true =>
      rw [if_pos rfl] at h2 ⊢
      exact a.ok cn (f.step r x2) (r.up x2 k2) h2
    | false =>
      rw [if_neg (by decide)] at h2 ⊢
      exact b.ok cn (f.step r x2) (r.up x2 k2) h2⟩
noncomputable def AX.for (it : AI K) (g : AG K) (s : AX K m B0 H0) : AX K m B0 H0 := ⟨tFor it.ti g.tg s.ts, fun e t k => it.wp e t fun ds t1 => ∃ I : Nat → En → Tq → Prop, I 0 e t1 ∧
    (∀ (i : Nat) d e' t', ds[i]? = some d → I i e' t' → g.wp d e' fun e2 => s.wp e2 t' { k with nx := I (i + 1), ct := I (i + 1), bk := k.nx }) ∧ ∀ e' t', I ds.length e' t' → k.nx e' t', fun {B1 H1 Dd k} c {B e σ H t} f r h =>
  it.ok r h _ fun J ds H2 t2 x2 k2 h2 sq => by
    obtain ⟨I, i0, is, ie⟩ := h2
    have f2 := f.step r x2
    have r2 := r.up x2 k2
    have fh := f2.here r2
    refine ⟨fun i mm σ' H' => mm = ds.length - i ∧ i ≤ ds.length ∧ ∃ B' e' t', Fr m B0 H0 B H2 B' H' ∧ Rep K m B0 B' e' σ' H' t' ∧ I i e' t', ⟨ds.length, by simp, Nat.zero_le _, B, e, t2, fh, r2, i0⟩, ?_⟩
    rintro i mm σ' H' ⟨rfl, hi, B', e', t', f', r', hI⟩
    obtain ⟨sg, ss, sy⟩ := f'.sq r' sq
    by_cases hlt : i < ds.length
    · refine .inr ⟨sg i hlt, fun σ3 H3 => ∃ B' e' t', Fr m B0 H0 B H2 B' H3 ∧ Rep K m B0 B' e' σ3 H3 t' ∧ I (i + 1) e' t', fun σ3 H3 p => ⟨ds.length - (i + 1), by omega, rfl, hlt, p⟩, fun x H3 y => ?_⟩
      obtain ⟨s3, rx⟩ := sy i ds[i] x H3 (List.getElem?_eq_getElem hlt) y
      have r3 := r'.same s3
      have f3 := f'.step r' (m.xs r'.ok s3)
      refine g.ok r3 rx (is i ds[i] e' t' (List.getElem?_eq_getElem hlt) hI) _ fun e4 σ4 hk r4 _ _ => ?_
      refine s.ok (B1 := B) (H1 := H2) (Dd := { Dd with nx := fun σ3 H3 => ∃ B' e' t', Fr m B0 H0 B H2 B' H3 ∧ Rep K m B0 B' e' σ3 H3 t' ∧ I (i + 1) e' t', ct := fun σ3 H3 => ∃ B' e' t', Fr m B0 H0 B H2 B' H3 ∧ Rep K m B0 B' e' σ3 H3 t' ∧ I (i + 1) e' t', bk := Dd.nx }) (k := { k with nx := I (i + 1), ct := I (i + 1), bk := k.nx }) ⟨fun f5 r5 h5 => ⟨_, _, _, f5, r5, h5⟩, fun f5 r5 h5 => c.nx (f2.comp f5) r5 h5, fun f5 r5 h5 => ⟨_, _, _, f5, r5, h5⟩, c.rt⟩ f3 r4 hk
    · have e1 : i = ds.length := by omega
      subst e1
      exact .inl ⟨ss, c.nx (f2.comp f') r' (ie e' t' hI)⟩⟩
noncomputable def tRz (fl : Str) (C : Addr) (W : WX) (ta : TA) : TS := fun _ σ H => ta σ H fun vs H1 => ∃ v, vs = [v] ∧ ∀ d, H1 d = none → W (.ref C) (some d) σ (upd H1 d (.xd [(fl, v)]))
theorem w_AX_of {a : AS K} : (AX.of a : AX K m B0 H0).wp = a.wp := rfl
theorem w_AX_seq {a b : AX K m B0 H0} : (AX.seq a b).wp = fun e t k => a.wp e t { k with nx := fun e' t' => b.wp e' t' k } := rfl
theorem w_AX_ifS {c : AT K} {a b : AX K m B0 H0} : (AX.ifS c a b).wp = fun e t k => c.wp e t fun z t1 => if z = true then a.wp e t1 k else b.wp e t1 k := rfl
theorem w_AX_for {it : AI K} {g : AG K} {s : AX K m B0 H0} : (AX.for it g s).wp = fun e t k => it.wp e t fun ds t1 => ∃ I : Nat → En → Tq → Prop, I 0 e t1 ∧
    (∀ (i : Nat) d e' t', ds[i]? = some d → I i e' t' → g.wp d e' fun e2 => s.wp e2 t' { k with nx := I (i + 1), ct := I (i + 1), bk := k.nx }) ∧ ∀ e' t', I ds.length e' t' → k.nx e' t' := rfl
theorem t_AX_of {a : AS K} : (AX.of a : AX K m B0 H0).ts = a.ts := rfl
theorem t_AX_seq {a b : AX K m B0 H0} : (AX.seq a b).ts = tSeq a.ts b.ts := rfl
theorem t_AX_ifS {c : AT K} {a b : AX K m B0 H0} : (AX.ifS c a b).ts = tIfS c.tt a.ts b.ts := rfl
theorem t_AX_for {it : AI K} {g : AG K} {s : AX K m B0 H0} : (AX.for it g s).ts = tFor it.ti g.tg s.ts := rfl
end
/-- a promise with two ends: the answer, or the error's field -/
noncomputable def spXR (K : PySem.W.Frag) (C : Addr) (fl : Str) (p : List PyData → (PyData → Prop) → (PyData → Prop) → Prop) : Sp := fun vs H Q E => ∃ (B : Addr → Prop) (ds : List PyData) (kr kx : PyData → Prop), Al B H ∧ RpA K B H ds vs ∧ p ds kr kx ∧
  (∀ d v H', kr d → Same H H' → Rp K B H' d v → Q v H') ∧ ∀ x v dd H', kx x → Same H H' → Rp K B H' x v → H' dd = some (.xd [(fl, v)]) → E (.ref C) (some dd) H'
end CG
namespace CG
open PySem PySem.Spec PyProof.Rows L2
section
variable {K : PySem.W.Frag}
noncomputable def AG.lst (g : AGs K) : AG K := ⟨gLst K g.n g.tg, g.sl, fun d e k => unL d fun ds => g.wp ds e k, fun {m B0 B e σ H t k d v} r rv h Q q => by
  obtain ⟨ds, rfl, h⟩ := unL_of h
  obtain ⟨a, xs, rfl, na, s, t⟩ := rp_lst.mp rv
  obtain ⟨hn, hq⟩ := g.ok r t h
  exact ⟨a, xs, rfl, SqL.of s, by rw [← t.length, hn], hq Q q⟩⟩
end
end CG
namespace CG
open PySem PySem.Spec PyProof.Rows L2
section
variable {K : PySem.W.Frag} {m : Dck} {B0 : Addr → Prop} {H0 : Hp} {fl : Str} {C : Addr} {W : WX} {kx : PyData → Prop}
noncomputable abbrev PX := List PyData → (PyData → Prop) → (PyData → Prop) → Prop
noncomputable def AX.setX (z : Rz K m B0 H0 fl C W kx) (i : Nat) (p : PX) (a : AA K) : AX K m B0 H0 := ⟨tAsg (tCallS (spXR K C fl p) (WE W) a.ta) (gName i), fun e t k => a.wp e t fun ds t1 => p ds (fun d => k.nx (e.set i (.dat d)) t1) kx, fun {B1 H1 Dd k} c {B e σ H t} f r h => by
  refine a.ok r h _ fun vs ds H2 t2 x2 k2 h2 r2 => ?_
  have s := r.up x2 k2
  have f2 := f.step r x2
  refine ⟨B, ds, _, kx, s.al, r2, h2, fun d v H' hk sm rv => ?_, fun x v dd H' hx sm rx hd => ?_⟩
  · have x3 := m.xs k2 sm
    exact c.nx (f2.step s x3) ((s.up x3 (m.same k2 sm)).set rv) hk
  · exact z.tk σ H' dd v x (f2.x0.trans (m.xs k2 sm)) hx (Rp.less f2.g0.up _ _ rx) hd⟩
end
end CG
namespace CG
open PySem PySem.Spec PyProof.Rows L2
/-- a promise with two ends as one of the answer only -/
theorem FnG.plain {pr : Program} {wo : World} {K : PySem.W.Frag} {mg : Str → Option Value} {ba : Heap} {cx : CXT} {k : Nat} {f : Addr} {fd : FuncData} {ps : List Str} {C : Addr} {fl : Str} {p : PX} {q : Pm} (G : FnG pr wo K mg ba cx k f fd ps (spXR K C fl p)) (h : ∀ ds t k, q.w ds t k → p ds (fun d => k d t) (fun _ => False)) : FnG pr wo K mg ba cx k f fd ps (spA K q) := by
  have conv : ∀ vs H Q E, spA K q vs H Q E → spXR K C fl p vs H Q E := fun vs H Q E hs => by
    obtain ⟨m, B, t, ds, al, pb, ok, ra, hw⟩ := hs
    exact ⟨B, ds, _, fun _ => False, al, ra, h ds t _ hw, fun d v H' hk sm rv => hk v H' (m.xs ok sm) (m.same ok sm) rv, fun x v dd H' hx => hx.elim⟩
  exact ⟨fun vs H Q E hs => G.len vs H Q E (conv vs H Q E hs), fun A out s H ar us vs Q E hg hr he hb hv hs => G.run A out s H ar us vs Q E hg hr he hb hv (conv vs H Q E hs)⟩
end CG
namespace CG
open PySem PySem.Spec PyProof.Rows L2
/-- what is passed for apart -/
noncomputable def KwB (kws : List (Str × Value)) (bv : V) : Prop := (kws = [] ∧ bv = .bl false) ∨ ∃ u, kws = [(("apart" : Str), u)] ∧ RelV bv u
structure FnV (pr : Program) (wo : World) (K : PySem.W.Frag) (mg : Str → Option Value) (ba : Heap) (cx : CXT) (k : Nat) (f : Addr) (sp : Sp) : Prop where
  run : ∀ (A : Around) (out : List Env) (s : Shared) (H : Hp) (us : List Value) (vs : List V) (kws : List (Str × Value)) (bv : V) (Q : VK) (E : XK), A.guards = some [] → Room k A → Env0 pr wo K mg ba A out s H → Vals vs us → KwB kws bv → sp (bv :: vs) H Q E →
    codeAny (model pr wo) A (.call (.ref f) ⟨us, kws⟩) (CR cx out pr wo H s Q E) s
end CG
namespace CG
open PySem PySem.Spec PyProof.Rows L2
section
variable {X : Cx} {tg : Expr}
noncomputable def iSeq (K : PySem.W.Frag) (tl : TE) : TI := fun σ H R => tl σ H fun x H1 => ∃ a, x = .ref a ∧ (((∃ xs, SqL K H1 a xs) ∧ R (Itl K a) H1) ∨ ((∃ xs, SqT K H1 a xs) ∧ R (Itt K a) H1))
end
section
variable {K : PySem.W.Frag}
noncomputable def unSq : PyData → (List PyData → Prop) → Prop
  | .tuple ds, k => k ds
  | .list ds, k => k ds
  | _, _ => False
noncomputable def AI.seq (a : AE K) : AI K := ⟨iSeq K a.te, fun e t k => a.wp e t fun d t1 => unSq d fun ds => k ds t1, fun {m B0 B e σ H t k} r h R q =>
  a.ok r h _ fun v d H1 t1 x1 k1 h1 r1 => by
    cases d with
    | tuple ds =>
      obtain ⟨a, xs, rfl, na, s, t⟩ := rp_tup.mp r1
      exact ⟨a, rfl, .inr ⟨⟨_, s⟩, q _ ds H1 t1 x1 k1 h1 (sq_tup na s t)⟩⟩
    | list ds =>
      obtain ⟨a, xs, rfl, na, s, t⟩ := rp_lst.mp r1
      exact ⟨a, rfl, .inl ⟨⟨_, SqL.of s⟩, q _ ds H1 t1 x1 k1 h1 (sq_lst na s t)⟩⟩
    | _ => exact h1.elim⟩
end
end CG
namespace CG
open PySem PySem.Spec PyProof.Rows L2
section
variable {K : PySem.W.Frag} {H H1 : Hp} {B : Addr → Prop}
mutual
/-- v is the data d, of tuples only -/
noncomputable def Rn (K : PySem.W.Frag) (H : Hp) : PyData → V → Prop
  | .none, v => v = .non
  | .bool b, v => v = .bl b
  | .int i, v => v = .int i
  | .str x, v => v = .str x
  | .list _, _ => False
  | .tuple ds, v => ∃ a xs, v = .ref a ∧ SqT K H a xs ∧ RnA K H ds xs
  | .dict _, _ => False
noncomputable def RnA (K : PySem.W.Frag) (H : Hp) : List PyData → List V → Prop
  | [], xs => xs = []
  | d :: ds, xs => ∃ x r, xs = x :: r ∧ Rn K H d x ∧ RnA K H ds r
end
mutual
/-- data of tuples only -/
noncomputable def flT : PyData → Bool
  | .list _ => false
  | .dict _ => false
  | .tuple ds => flA ds
  | _ => true
noncomputable def flA : List PyData → Bool
  | [] => true
  | d :: ds => flT d && flA ds
end
theorem rn_tup {ds : List PyData} {v : V} : Rn K H (.tuple ds) v ↔ ∃ a xs, v = .ref a ∧ SqT K H a xs ∧ RnA K H ds xs := by simp only [Rn]
theorem rna_cons {d : PyData} {ds : List PyData} {xs : List V} : RnA K H (d :: ds) xs ↔ ∃ x r, xs = x :: r ∧ Rn K H d x ∧ RnA K H ds r := by simp only [RnA]
theorem rna_nil {xs : List V} : RnA K H [] xs ↔ xs = [] := by simp only [RnA]
mutual
theorem Rn.keep (h : ∀ a xs, Rd H a (.tup xs) → Rd H1 a (.tup xs)) : ∀ (d : PyData) (v : V), Rn K H d v → Rn K H1 d v
  | .none, v, z => by simp only [Rn] at z ⊢; exact z
  | .bool b, v, z => by simp only [Rn] at z ⊢; exact z
  | .int i, v, z => by simp only [Rn] at z ⊢; exact z
  | .str s, v, z => by simp only [Rn] at z ⊢; exact z
  | .list ds, v, z => by simp only [Rn] at z
  | .dict ds, v, z => by simp only [Rn] at z
  | .tuple ds, v, z => by
    obtain ⟨a, xs, e, s, t⟩ := rn_tup.mp z
    exact rn_tup.mpr ⟨a, xs, e, s.elim (fun s => .inl (h a xs s)) .inr, RnA.keep h ds xs t⟩
theorem RnA.keep (h : ∀ a xs, Rd H a (.tup xs) → Rd H1 a (.tup xs)) : ∀ (ds : List PyData) (xs : List V), RnA K H ds xs → RnA K H1 ds xs
  | [], xs, z => by rw [rna_nil] at z ⊢; exact z
  | d :: ds, xs, z => by
    obtain ⟨x, r, e, h1, h2⟩ := rna_cons.mp z
    exact rna_cons.mpr ⟨x, r, e, Rn.keep h d x h1, RnA.keep h ds r h2⟩
end
mutual
theorem Rn.rp (al : Al B H) : ∀ (d : PyData) (v : V), Rn K H d v → Rp K B H d v
  | .none, v, z => by simp only [Rn] at z; exact rp_non.mpr z
  | .bool b, v, z => by simp only [Rn] at z; exact rp_bl.mpr z
  | .int i, v, z => by simp only [Rn] at z; exact rp_int.mpr z
  | .str s, v, z => by simp only [Rn] at z; exact rp_str.mpr z
  | .list ds, v, z => by simp only [Rn] at z
  | .dict ds, v, z => by simp only [Rn] at z
  | .tuple ds, v, z => by
    obtain ⟨a, xs, e, s, t⟩ := rn_tup.mp z
    refine rp_tup.mpr ⟨a, xs, e, ?_, s, RnA.rp al ds xs t⟩
    rcases s with s | s
    · refine .inl fun b => ?_
      have lv := al a b
      rcases s with s | ⟨o, s⟩
      · rw [s] at lv; exact lv
      · rw [s] at lv; exact lv
    · exact .inr s
theorem RnA.rp (al : Al B H) : ∀ (ds : List PyData) (xs : List V), RnA K H ds xs → RpA K B H ds xs
  | [], xs, z => rpa_nil.mpr (rna_nil.mp z)
  | d :: ds, xs, z => by
    obtain ⟨x, r, e, h1, h2⟩ := rna_cons.mp z
    exact rpa_cons.mpr ⟨x, r, e, Rn.rp al d x h1, RnA.rp al ds r h2⟩
end
mutual
theorem Rn.of : ∀ (d : PyData) (v : V), flT d = true → Rp K B H d v → Rn K H d v
  | .none, v, _, z => by simp only [Rn]; exact rp_non.mp z
  | .bool b, v, _, z => by simp only [Rn]; exact rp_bl.mp z
  | .int i, v, _, z => by simp only [Rn]; exact rp_int.mp z
  | .str s, v, _, z => by simp only [Rn]; exact rp_str.mp z
  | .list ds, v, f, z => by simp only [flT, Bool.false_eq_true] at f
  | .dict ds, v, f, z => by simp only [flT, Bool.false_eq_true] at f
  | .tuple ds, v, f, z => by
    obtain ⟨a, xs, e, nb, s, t⟩ := rp_tup.mp z
    simp only [flT] at f
    exact rn_tup.mpr ⟨a, xs, e, s, RnA.of ds xs f t⟩
theorem RnA.of : ∀ (ds : List PyData) (xs : List V), flA ds = true → RpA K B H ds xs → RnA K H ds xs
  | [], xs, _, z => rna_nil.mpr (rpa_nil.mp z)
  | d :: ds, xs, f, z => by
    obtain ⟨x, r, e, h1, h2⟩ := rpa_cons.mp z
    simp only [flA, Bool.and_eq_true] at f
    exact rna_cons.mpr ⟨x, r, e, Rn.of d x f.1 h1, RnA.of ds r f.2 h2⟩
end
/-- the attributes: those of nms that are set -/
structure FsOk (K : PySem.W.Frag) (H : Hp) (o : Str → Option PyData) (nms : List Str) (fs : List (Str × V)) : Prop where
  no : ∀ f, o f = none → fs.lookup f = none
  yes : ∀ f d, o f = some d → ∃ v, fs.lookup f = some v ∧ Rn K H d v
  sub : ∀ f, f ∉ nms → o f = none
  nd : (fs.map (·.1)).Nodup
  ks : ∀ f ∈ fs.map (·.1), f ∈ nms
theorem nodup_le : ∀ {ks ns : List Str}, ks.Nodup → (∀ k ∈ ks, k ∈ ns) → ks.length ≤ ns.length
  | [], _, _, _ => Nat.zero_le _
  | k :: ks, ns, nd, h => by
    have hk := h k List.mem_cons_self
    obtain ⟨n1, n2⟩ := List.nodup_cons.mp nd
    have := nodup_le (ks := ks) (ns := ns.erase k) n2 fun x hx => by
      have ne : x ≠ k := fun e => n1 (e ▸ hx)
      exact (List.mem_erase_of_ne ne).mpr (h x (List.mem_cons_of_mem _ hx))
    rw [List.length_erase_of_mem hk] at this
    have := List.length_pos_of_mem hk
    simp only [List.length_cons]
    omega
theorem FsOk.len {o : Str → Option PyData} {nms : List Str} {fs : List (Str × V)} (h : FsOk K H o nms fs) : fs.length ≤ nms.length := by
  have := nodup_le h.nd h.ks
  rw [List.length_map] at this
  exact this
noncomputable def putO (o : Str → Option PyData) (f : Str) (d : PyData) : Str → Option PyData := fun g => if g = f then some d else o g
theorem putF_keys {f : Str} {v : V} : ∀ {fs : List (Str × V)}, ∀ g ∈ (putF f v fs).map (·.1), g ∈ fs.map (·.1) ∨ g = f
  | [], g, h => .inr (by simpa [putF] using h)
  | (k, x) :: r, g, h => by
    unfold putF at h
    split at h
    · exact .inl h
    · simp only [List.map_cons, List.mem_cons] at h ⊢
      rcases h with h | h
      · exact .inl (.inl h)
      · exact (putF_keys g h).elim (fun z => .inl (.inr z)) .inr
theorem putF_nodup {f : Str} {v : V} : ∀ {fs : List (Str × V)}, (fs.map (·.1)).Nodup → ((putF f v fs).map (·.1)).Nodup
  | [], _ => by simp [putF]
  | (k, x) :: r, h => by
    unfold putF
    split
    · exact h
    · rename_i ne
      simp only [List.map_cons, List.nodup_cons] at h ⊢
      refine ⟨fun z => ?_, putF_nodup h.2⟩
      rcases putF_keys k z with w | w
      · exact h.1 w
      · exact ne w
theorem FsOk.put {o : Str → Option PyData} {nms : List Str} {fs : List (Str × V)} {f : Str} {d : PyData} {v : V} (h : FsOk K H o nms fs) (hf : f ∈ nms) (r : Rn K H d v) : FsOk K H (putO o f d) nms (putF f v fs) := by
  refine ⟨fun g e => ?_, fun g d' e => ?_, fun g ng => ?_, putF_nodup h.nd, fun g hg => (putF_keys g hg).elim (h.ks g) fun e => e ▸ hf⟩
  · unfold putO at e
    rw [lookup_putF]
    split at e
    · cases e
    · rename_i ne
      rw [if_neg ne]
      exact h.no g e
  · unfold putO at e
    rw [lookup_putF]
    split at e
    · rename_i eq
      cases e
      rw [if_pos eq]
      exact ⟨v, rfl, r⟩
    · rename_i ne
      rw [if_neg ne]
      exact h.yes g d' e
  · unfold putO
    rw [if_neg (fun e : g = f => ng (e ▸ hf))]
    exact h.sub g ng
theorem FsOk.keep {o : Str → Option PyData} {nms : List Str} {fs : List (Str × V)} (h : FsOk K H o nms fs) (k : ∀ a xs, Rd H a (.tup xs) → Rd H1 a (.tup xs)) : FsOk K H1 o nms fs :=
  ⟨h.no, fun f d e => let ⟨v, l, r⟩ := h.yes f d e; ⟨v, l, Rn.keep k d v r⟩, h.sub, h.nd, h.ks⟩
end
noncomputable def Tq.put (t : Tq) (i : Nat) (f : Str) (d : PyData) : Tq := t.setO i (putO (t.o i) f d)
theorem o_put {t : Tq} {i : Nat} {f : Str} {d : PyData} : (t.put i f d).o i = putO (t.o i) f d := by unfold Tq.put Tq.setO; simp
theorem o_set {t : Tq} {i : Nat} {o' : Str → Option PyData} : (t.setO i o').o i = o' := by unfold Tq.setO; simp
/-- the object i of m: an instance of C with the attributes nms -/
structure Ob (K : PySem.W.Frag) (m : Dck) (i : Nat) (C : Addr) (nms : List Str) : Prop where
  us : i ∈ m.us
  pl : m.pl (m.adr i)
  get : ∀ {H : Hp} {t : Tq}, m.ok H t → ∃ dx fs, H (m.adr i) = some (.ins C dx fs) ∧ FsOk K H (t.o i) nms fs
  put : ∀ {H : Hp} {t : Tq} {dx : Addr} {fs : List (Str × V)} {f : Str} {d : PyData} {v : V}, m.ok H t → H (m.adr i) = some (.ins C dx fs) → f ∈ nms → Rn K H d v → m.ok (upd H (m.adr i) (.ins C dx (putF f v fs))) (t.put i f d)
noncomputable def PO (K : PySem.W.Frag) (i : Nat) (C : Addr) (nms : List Str) : Dck → Prop := fun m => Ob K m i C nms
/-- the object that a slot holds -/
noncomputable def ptR (K : PySem.W.Frag) (C : Addr) (nms : List Str) : Option Sl → (Nat → Prop) → Prop
  | some (.ptr i M), k => M = PO K i C nms ∧ k i
  | _, _ => False
theorem ptR_ptr {K : PySem.W.Frag} {C : Addr} {nms : List Str} {i : Nat} {k : Nat → Prop} : ptR K C nms (some (.ptr i (PO K i C nms))) k = k i := by
  show (PO K i C nms = PO K i C nms ∧ k i) = k i
  simp
section
variable {K : PySem.W.Frag} {C : Addr} {nms : List Str}
theorem Rep.pt {m : Dck} {B0 B : Addr → Prop} {e : En} {σ : L2.St} {H : Hp} {t : Tq} {j : Nat} {k : Nat → Prop} (r : Rep K m B0 B e σ H t) (h : ptR K C nms e[j]? k) : ∃ i, σ[j]? = some (some (.ref (m.adr i))) ∧ Ob K m i C nms ∧ k i := by
  have s := r.sl j
  cases q : e[j]? with
  | none => rw [q] at h; exact h.elim
  | some x =>
    rw [q] at h s
    cases x with
    | fn _ _ _ _ _ => first | exact h.elim | (cases h'; done) | exact s | trivial
    | ptr i N =>
      obtain ⟨rfl, hk⟩ : N = PO K i C nms ∧ k i := h
      exact ⟨i, s.1, s.2.2, hk⟩
    | un => exact h.elim
    | own ds => exact h.elim
    | deck _ => exact h.elim
    | dat _ => exact h.elim
theorem Ob.xt {m : Dck} {i : Nat} (ob : Ob K m i C nms) {H : Hp} {t : Tq} (k : m.ok H t) {dx : Addr} {fs : List (Str × V)} : Xt m.pl H (upd H (m.adr i) (.ins C dx fs)) := ⟨fun a o np e => by
  rw [upd_ne (fun w : a = m.adr i => np (w ▸ ob.pl))]
  exact e, fun a pa => by
  by_cases w : a = m.adr i
  · rw [w, upd_same]; exact trivial
  · rw [upd_ne w]
    exact m.live k pa⟩
/-- the promise of a def whose first argument is an object -/
noncomputable def spO (K : PySem.W.Frag) (C : Addr) (nms : List Str) (p : Nat → Pm) : Sp := fun vs H Q _ => ∃ (i : Nat) (m : Dck) (B : Addr → Prop) (t : Tq) (ds : List PyData) (ws : List V), vs = .ref (m.adr i) :: ws ∧ Ob K m i C nms ∧ Al B H ∧ (∀ a, m.pl a → B a) ∧ m.ok H t ∧ RpA K B H ds ws ∧
  (p i).w ds t fun d t' => ∀ v H', Xt m.pl H H' → m.ok H' t' → Rp K B H' d v → Q v H'
end
end CG
namespace CG
open PySem PySem.Spec PyProof.Rows L2
section
variable {K : PySem.W.Frag}
theorem rd_upd {H : Hp} {x : Addr} {o : HO} (lv : Lv (H x)) (a : Addr) (xs : List V) (h : Rd H a (.tup xs)) : Rd (upd H x o) a (.tup xs) := by
  have ne : a ≠ x := fun w => by
    rw [w] at h
    rcases h with e | ⟨o, e⟩
    · rw [e] at lv; exact lv
    · rw [e] at lv; exact lv
  rcases h with e | ⟨o, e⟩
  · exact .inl (by rw [upd_ne ne]; exact e)
  · exact .inr ⟨o, by rw [upd_ne ne]; exact e⟩
/-- with one object more -/
noncomputable def Dck.add (K : PySem.W.Frag) (m : Dck) (i : Nat) (x dx C : Addr) (nms : List Str) : Dck where
  pl := fun a => m.pl a ∨ a = x
  D := m.D
  adr := fun j => if j = i then x else m.adr j
  us := i :: m.us
  ok := fun H t => m.ok H t ∧ ∃ fs, H x = some (.ins C dx fs) ∧ FsOk K H (t.o i) nms fs
  live := fun {H t a} k h => by
    rcases h with h | rfl
    · exact m.live k.1 h
    · obtain ⟨fs, e, _⟩ := k.2
      rw [e]; exact trivial
  stay := fun {H H1 t} k h1 h2 h3 h4 => by
    obtain ⟨k1, fs, e, f⟩ := k
    exact ⟨m.stay k1 (fun a o p => h1 a o (.inl p)) h2 h3 h4, fs, h1 x _ (.inr rfl) e, f.keep h2⟩
  fre := fun {H t j o'} hj k => by
    obtain ⟨k1, fs, e, f⟩ := k
    have n1 : i ≠ j := fun z => hj (z ▸ List.mem_cons_self)
    refine ⟨m.fre (fun z => hj (List.mem_cons_of_mem _ z)) k1, fs, e, ?_⟩
    show FsOk K H (if i = j then o' else t.o i) nms fs
    rw [if_neg n1]
    exact f
theorem add_adr {m : Dck} {i : Nat} {x dx C : Addr} {nms : List Str} : (m.add K i x dx C nms).adr i = x := if_pos rfl
theorem ob_add {m : Dck} {i : Nat} {x dx C : Addr} {nms : List Str} (np : ¬ m.pl x) (hi : i ∉ m.us) : Ob K (m.add K i x dx C nms) i C nms where
  us := List.mem_cons_self
  pl := by rw [add_adr]; exact .inr rfl
  get := fun {H t} k => by
    obtain ⟨k1, fs, e, f⟩ := k
    rw [add_adr]
    exact ⟨dx, fs, e, f⟩
  put := fun {H t dx' fs f d v} k e hf rn => by
    obtain ⟨k1, fs', e', g⟩ := k
    rw [add_adr] at e ⊢
    rw [e'] at e
    cases e
    have lv : Lv (H x) := by rw [e']; exact trivial
    refine ⟨m.putV (m.fre hi k1) np lv, _, upd_same, ?_⟩
    rw [o_put]
    exact (g.put hf rn).keep (rd_upd lv)
/-- what stays known of the slots -/
noncomputable def keS (M : Dck → Prop) : Sl → Sl
  | .deck N => open Classical in if N = M then .deck N else .un
  | .ptr _ _ => .un
  | s => s
theorem map_get {e : En} {M : Dck → Prop} {j : Nat} : (e.map (keS M))[j]? = (e[j]?).map (keS M) := List.getElem?_map
theorem own_ke {e : En} {M : Dck → Prop} {j : Nat} {ds : List PyData} (h : (e.map (keS M))[j]? = some (.own ds)) : e[j]? = some (.own ds) := by
  rw [map_get] at h
  cases q : e[j]? with
  | none => rw [q] at h; cases h
  | some y =>
    rw [q] at h
    have h' : keS M y = .own ds := Option.some.inj h
    cases y with
    | own es => cases h'; rfl
    | un => cases h'
    | dat d => cases h'
    | ptr _ _ => cases h'
    | fn _ _ _ _ _ => cases h'
    | deck N =>
      by_cases eN : N = M
      · rw [show keS M (.deck N) = .deck N from if_pos eN] at h'
        cases h'
      · rw [show keS M (.deck N) = .un from if_neg eN] at h'
        cases h'
/-- the slots under the larger deck -/
theorem Rep.toAdd {m : Dck} {B0 B : Addr → Prop} {e : En} {σ : L2.St} {H : Hp} {t : Tq} {i : Nat} {x dx C : Addr} {nms : List Str} {M : Dck → Prop} (r : Rep K m B0 (Bp B x) e σ H t) (nB : ¬ B x) (hM : M (m.add K i x dx C nms)) (hown : ∀ (j : Nat) (ds : List PyData), e[j]? = some (Sl.own ds) → σ[j]? ≠ some (some (V.ref x)))
    (k : (m.add K i x dx C nms).ok H t) : Rep K (m.add K i x dx C nms) B0 (Bp B x) (e.map (keS M)) σ H t := by
  refine ⟨r.al, fun a p => p.elim (r.pb a) fun e => .inr e, r.b0, k, by rw [List.length_map]; exact r.ln, fun j => ?_, fun a b p ds es h1 h2 h3 h4 => r.ow a b p ds es (own_ke h1) (own_ke h2) h3 h4⟩
  have s := r.sl j
  have ho := hown j
  rw [map_get]
  cases q : e[j]? with
  | none => trivial
  | some y =>
    rw [q] at s ho
    cases y with
    | un => trivial
    | dat d => exact s
    | own ds =>
      obtain ⟨p, vs, e1, b, b0, np, hp, ra⟩ := s
      exact ⟨p, vs, e1, b, b0, fun z => z.elim np fun w => ho ds rfl (by rw [e1, w]), hp, ra⟩
    | ptr _ _ => trivial
    | fn _ _ _ _ _ => first | trivial | exact s
    | deck N =>
      show RepS K _ B0 (Bp B x) H (some (keS M (.deck N))) _
      by_cases eN : N = M
      · rw [show keS M (.deck N) = .deck N from if_pos eN, eN]
        exact ⟨s.1, hM⟩
      · rw [show keS M (.deck N) = .un from if_neg eN]
        trivial
/-- .. and back -/
theorem Rep.ofAdd {m : Dck} {B0 B : Addr → Prop} {e : En} {σ : L2.St} {H : Hp} {t : Tq} {i : Nat} {x dx C : Addr} {nms : List Str} {M : Dck → Prop} (r : Rep K (m.add K i x dx C nms) B0 B e σ H t) (hM : M m) : Rep K m B0 B (e.map (keS M)) σ H t := by
  refine ⟨r.al, fun a p => r.pb a (.inl p), r.b0, r.ok.1, by rw [List.length_map]; exact r.ln, fun j => ?_, fun a b p ds es h1 h2 h3 h4 => r.ow a b p ds es (own_ke h1) (own_ke h2) h3 h4⟩
  have s := r.sl j
  rw [map_get]
  cases q : e[j]? with
  | none => trivial
  | some y =>
    rw [q] at s
    cases y with
    | un => trivial
    | dat d => exact s
    | own ds =>
      obtain ⟨p, vs, e1, b, b0, np, hp, ra⟩ := s
      exact ⟨p, vs, e1, b, b0, fun z => np (.inl z), hp, ra⟩
    | ptr _ _ => trivial
    | fn _ _ _ _ _ => first | trivial | exact s
    | deck N =>
      show RepS K m B0 B H (some (keS M (.deck N))) _
      by_cases eN : N = M
      · rw [show keS M (.deck N) = .deck N from if_pos eN, eN]
        exact ⟨s.1, hM⟩
      · rw [show keS M (.deck N) = .un from if_neg eN]
        trivial
/-- a slot holds the object -/
theorem Rep.setPt {m : Dck} {B0 B : Addr → Prop} {e : En} {σ : L2.St} {H : Hp} {t : Tq} {i j : Nat} {N : Dck → Prop} (r : Rep K m B0 B e σ H t) (hi : i ∈ m.us) (hN : N m) : Rep K m B0 B (e.set j (.ptr i N)) (σ.set j (some (.ref (m.adr i)))) H t := by
  refine ⟨r.al, r.pb, r.b0, r.ok, by rw [List.length_set, List.length_set]; exact r.ln, fun l => ?_, fun a b p ds es h1 h2 h3 h4 => ?_⟩
  · by_cases z : j = l
    · subst z
      by_cases hl : j < e.length
      · rw [List.getElem?_set_self hl, List.getElem?_set_self (by rw [← r.ln]; exact hl)]
        exact ⟨rfl, hi, hN⟩
      · rw [List.getElem?_eq_none (by rw [List.length_set]; omega)]
        trivial
    · rw [List.getElem?_set_ne z, List.getElem?_set_ne z]
      exact r.sl l
  · have na : j ≠ a := fun z => by
      subst z
      by_cases hl : j < e.length
      · rw [List.getElem?_set_self hl] at h1; cases h1
      · rw [List.getElem?_eq_none (by rw [List.length_set]; omega)] at h1; cases h1
    have nb : j ≠ b := fun z => by
      subst z
      by_cases hl : j < e.length
      · rw [List.getElem?_set_self hl] at h2; cases h2
      · rw [List.getElem?_eq_none (by rw [List.length_set]; omega)] at h2; cases h2
    rw [List.getElem?_set_ne na] at h1 h3
    rw [List.getElem?_set_ne nb] at h2 h4
    exact r.ow a b p ds es h1 h2 h3 h4
theorem not_in : ∀ l : List Nat, ∃ i, i ∉ l := fun l => by
  have : ∀ l : List Nat, ∃ n, ∀ x ∈ l, x < n := fun l => by
    induction l with
    | nil => exact ⟨0, fun _ h => nomatch h⟩
    | cons a l ih =>
      obtain ⟨n, h⟩ := ih
      refine ⟨max n (a + 1), fun x hx => ?_⟩
      rcases List.mem_cons.mp hx with rfl | hx
      · omega
      · have := h x hx; omega
  obtain ⟨n, h⟩ := this l
  exact ⟨n, fun z => Nat.lt_irrefl n (h n z)⟩
/-- x = C(..), and what follows with the object -/
noncomputable def AS.new {C : Addr} {nms : List Str} (M : Dck → Prop) (up : ∀ {m : Dck} {i : Nat} {x dx : Addr}, M m → ¬ m.pl x → M (m.add K i x dx C nms)) (jd j : Nat) (p : Nat → Pm) (E : XK) (a : AA K) (rest : AS K) : AS K := ⟨tSeq (tAsg (tMake C (spO K C nms p) [] E a.ta) (gName j)) rest.ts,
  fun e t k => a.wp e t fun ds t1 => dkS e[jd]? M ∧ ∀ i, (p i).w ds (t1.setO i fun _ => none) fun d t2 => d = .none ∧ rest.wp ((e.map (keS M)).set j (.ptr i (PO K i C nms))) t2 { nx := fun e' t' => k.nx (e'.map (keS M)) t', rt := k.rt, bk := fun e' t' => k.bk (e'.map (keS M)) t', ct := fun e' t' => k.ct (e'.map (keS M)) t' },
  fun {m B0 B1 H0 H1 Dd k} c {B e σ H t} f r h => a.ok r h _ fun vs ds H2 t2 x2 k2 h2 r2 => fun x dx nx nd ne => by
    obtain ⟨hdk, hp⟩ := h2
    obtain ⟨i, hi⟩ := not_in m.us
    have s2 := r.up x2 k2
    have f2 := f.step r x2
    obtain ⟨_, hMm⟩ := s2.dk hdk
    have nB : ¬ B x := s2.al.new nx
    have np : ¬ m.pl x := fun z => nB (s2.pb x z)
    have sm : Same H2 (upd (upd H2 dx (.own x)) x (.ins C dx [])) := (same_new nd).trans (same_new (by rw [upd_ne (fun w => ne w.symm)]; exact nx))
    have lx : Lv ((upd (upd H2 dx (.own x)) x (.ins C dx [])) x) := by rw [upd_same]; exact trivial
    have hx0 : ∀ {Ha : Hp} {Bq : Addr → Prop}, Xt Bq Ha H2 → ¬ Bq x → Ha x = none := fun {Ha Bq} y nb => by
      cases q : Ha x with
      | none => rfl
      | some o =>
        have := y.kp x o nb q
        rw [nx] at this
        cases this
    have h0x : H0 x = none := hx0 f2.x0 np
    have s3 := s2.under nx (m.xs k2 sm) (m.same (m.fre (o' := fun _ => none) hi k2) sm) lx
    have f3 := f2.step s2 (m.xs k2 sm)
    generalize hH3 : upd (upd H2 dx (.own x)) x (.ins C dx []) = H3 at sm lx s3 f3 ⊢
    have e3 : H3 x = some (.ins C dx []) := by rw [← hH3]; exact upd_same
    have km : (m.add K i x dx C nms).ok H3 (t2.setO i fun _ => none) := ⟨s3.ok, [], e3, by
      rw [o_set]
      exact ⟨(fun _ _ => rfl), (fun _ _ z => nomatch z), (fun _ _ => rfl), List.nodup_nil, (fun _ z => nomatch z)⟩⟩
    have s4 := Rep.toAdd (M := M) s3 nB (up hMm np) (fun l ds' hl hs => by
      have q := s2.sl l
      rw [hl, hs] at q
      obtain ⟨p', vs', e1, b, _⟩ := q
      cases e1
      exact nB b) km
    have f4 : Fr (m.add K i x dx C nms) B0 H0 B1 H1 (Bp B x) H3 := by
      refine ⟨⟨fun a h => .inl (f3.g0.up a h), fun a h => h.elim (f3.g0.fr a) fun e => .inr (e ▸ h0x)⟩, ⟨fun a o np' e => f3.x0.kp a o (fun z => np' (.inl z)) e, fun a pa => pa.elim (f3.x0.al a) fun e => e ▸ lx⟩, fun a h => h.elim (f3.f1 a) fun e => ?_, f3.x1⟩
      subst e
      by_cases b1 : B1 a
      · exact .inl b1
      · exact .inr (hx0 f2.x1 b1)
    have y3 : Xt (Bp B x) H2 H3 := ⟨fun a o _ e => sm a o e, s3.al⟩
    refine ⟨i, m.add K i x dx C nms, Bp B x, _, ds, vs, by rw [add_adr, List.append_nil], ob_add np hi, s3.al, s4.pb, km, (RpA.grow (gw_new nx) _ _ r2).up y3, (p i).mono (fun d t3 hk => ?_) (hp i)⟩
    intro v H4 x4 k4 rv
    obtain ⟨rfl, hr⟩ := hk
    refine ⟨rp_non.mp rv, ?_⟩
    have s5 := (s4.up x4 k4).setPt (j := j) (N := PO K i C nms) (List.mem_cons_self) (ob_add np hi)
    rw [add_adr] at s5
    have f5 := f4.step s4 x4
    have back : ∀ {Bq : Addr → Prop} {Hq : Hp}, Fr (m.add K i x dx C nms) B0 H0 B1 H1 Bq Hq → Fr m B0 H0 B1 H1 Bq Hq := fun {Bq Hq} g => ⟨g.g0, ⟨fun a o np' e => g.x0.kp a o (fun z => z.elim np' fun w => by rw [w, h0x] at e; cases e) e, fun a pa => g.x0.al a (.inl pa)⟩, g.f1, g.x1⟩
    refine rest.ok (k := { nx := fun e' t' => k.nx (e'.map (keS M)) t', rt := k.rt, bk := fun e' t' => k.bk (e'.map (keS M)) t', ct := fun e' t' => k.ct (e'.map (keS M)) t' }) ⟨fun g r' hk => c.nx (back g) (r'.ofAdd hMm) hk, fun g r' hk => c.bk (back g) (r'.ofAdd hMm) hk, fun g r' hk => c.ct (back g) (r'.ofAdd hMm) hk, fun xq kq hk rq => ?_⟩ f5 s5 hr
    exact c.rt ⟨fun a o np' e => xq.kp a o (fun z => z.elim np' fun w => by rw [w, h0x] at e; cases e) e, fun a pa => xq.al a (.inl pa)⟩ kq.1 hk rq⟩
end
end CG
namespace CG
open PySem PySem.Spec PyProof.Rows L2
noncomputable def Tq.up (t : Tq) (k : Int) : Tq := ⟨t.n + k, t.o⟩
/-- a deck of cells and a number of draws -/
noncomputable def dkB (D C : Addr) : Dck where
  pl := Bk D C
  D := D
  adr := fun _ => (0 : Nat)
  us := []
  ok := fun H t => Dk (Bk D C) H D C t.n
  live := fun k h => k.al _ h
  stay := fun {H H1 t} k h _ _ _ => by
    obtain ⟨bD, bC, al, ne, nn, cs, h1, h2, h3⟩ := k
    have g1 := h D _ (.inl rfl) h1
    have g2 := h C _ (.inr rfl) h2
    refine ⟨bD, bC, fun a z => ?_, ne, nn, cs, g1, g2, h3⟩
    rcases z with rfl | rfl
    · rw [g1]; exact trivial
    · rw [g2]; exact trivial
  fre := fun _ k => k
structure MBs (m : Dck) (C : Addr) : Prop where
  bk : ∀ a, Bk m.D C a → m.pl a
  get : ∀ {H : Hp} {t : Tq}, m.ok H t → Dk (Bk m.D C) H m.D C t.n
  put : ∀ {H H1 : Hp} {t : Tq} {n' : Int}, m.ok H t → Xt (Bk m.D C) H H1 → Dk (Bk m.D C) H1 m.D C n' → m.ok H1 ⟨n', t.o⟩
noncomputable def MB (m : Dck) : Prop := ∃ C, MBs m C
theorem mb_dkB {D C : Addr} : MB (dkB D C) := ⟨C, ⟨fun _ h => h, fun k => k, fun _ _ k => k⟩⟩
end CG
namespace CG
open PySem PySem.Spec PyProof.Rows L2
end CG
namespace CG
open PySem PySem.Spec PyProof.Rows L2
/-- an object that is known: a tuple of these numbers, without a dict of its own -/
noncomputable def ExO (o : HO) (ns : List Int) : Prop := ∃ ob, o = .frz ob (.tup (ns.map V.int)) ∧ ob.cls = .type "tuple" ∧ ob.dict = none
theorem ExO.nl {o : HO} {ns : List Int} (h : ExO o ns) : ¬ Lv (some o) := fun z => by
  obtain ⟨ob, rfl, _⟩ := h
  exact z
theorem ExO.nb {B : Addr → Prop} {H : Hp} {a : Addr} {o : HO} {ns : List Int} (h : ExO o ns) (al : Al B H) (e : H a = some o) : ¬ B a := fun b => h.nl (e ▸ al a b)
theorem ExO.rp {K : PySem.W.Frag} {B : Addr → Prop} {H : Hp} {a : Addr} {o : HO} {ns : List Int} (h : ExO o ns) (al : Al B H) (e : H a = some o) : ¬ B a ∧ Rp K B H (.tuple (ns.map PyData.int)) (.ref a) := by
  have nb : ¬ B a := fun b => h.nl (e ▸ al a b)
  obtain ⟨ob, rfl, _⟩ := h
  exact ⟨nb, rp_tup.mpr ⟨a, _, rfl, .inl nb, .inl (.inr ⟨ob, e⟩), RpA.ints ns⟩⟩
end CG
namespace CG
open PySem PySem.Spec PyProof.Rows L2
section
variable {K : PySem.W.Frag}
theorem Rep.setFn {m : Dck} {B0 B : Addr → Prop} {e : En} {σ : L2.St} {H : Hp} {t : Tq} {j : Nat} {f c : Addr} {o : HO} {d : PyData} {v : V} (r : Rep K m B0 B e σ H t) (hc : H c = some o) (nl : ¬ Lv (some o)) (rv : Rp K B H d v) : Rep K m B0 B (e.set j (.fn f c o d v)) (σ.set j (some (.ref f))) H t := by
  refine ⟨r.al, r.pb, r.b0, r.ok, by rw [List.length_set, List.length_set]; exact r.ln, fun l => ?_, fun a b p ds es h1 h2 h3 h4 => ?_⟩
  · by_cases z : j = l
    · subst z
      by_cases hl : j < e.length
      · rw [List.getElem?_set_self hl, List.getElem?_set_self (by rw [← r.ln]; exact hl)]
        exact ⟨⟨rfl, hc, nl⟩, rv⟩
      · rw [List.getElem?_eq_none (by rw [List.length_set]; omega)]
        trivial
    · rw [List.getElem?_set_ne z, List.getElem?_set_ne z]
      exact r.sl l
  · have na : j ≠ a := fun z => by
      subst z
      by_cases hl : j < e.length
      · rw [List.getElem?_set_self hl] at h1; cases h1
      · rw [List.getElem?_eq_none (by rw [List.length_set]; omega)] at h1; cases h1
    have nb : j ≠ b := fun z => by
      subst z
      by_cases hl : j < e.length
      · rw [List.getElem?_set_self hl] at h2; cases h2
      · rw [List.getElem?_eq_none (by rw [List.length_set]; omega)] at h2; cases h2
    rw [List.getElem?_set_ne na] at h1 h3
    rw [List.getElem?_set_ne nb] at h2 h4
    exact r.ow a b p ds es h1 h2 h3 h4
/-- the slot holds such a tuple -/
noncomputable def XSl (a : Addr) (o : HO) (ns : List Int) : Sl := .fn a a o (.tuple (ns.map PyData.int)) (.ref a)
noncomputable def rdX (x : Option Sl) (k : List Int → Prop) : Prop := ∃ a o ns, x = some (XSl a o ns) ∧ ExO o ns ∧ k ns
theorem Rep.exa {m : Dck} {B0 B : Addr → Prop} {e : En} {σ : L2.St} {H : Hp} {t : Tq} {i : Nat} {k : List Int → Prop} (r : Rep K m B0 B e σ H t) (h : rdX e[i]? k) : ∃ a o ns, σ[i]? = some (some (.ref a)) ∧ H a = some o ∧ ExO o ns ∧ k ns := by
  obtain ⟨a, o, ns, e1, ho, hk⟩ := h
  have s := r.sl i
  rw [e1] at s
  exact ⟨a, o, ns, s.1.1, s.1.2.1, ho, hk⟩
/-- an expression whose value is such a tuple -/
structure XE (K : PySem.W.Frag) where
  te : TE
  wp : En → Tq → (List Int → Tq → Prop) → Prop
  ok : ∀ {m : Dck} {B0 B : Addr → Prop} {e : En} {σ : L2.St} {H : Hp} {t : Tq} {k : List Int → Tq → Prop}, Rep K m B0 B e σ H t → wp e t k → ∀ Q : VK,
    (∀ a o ns H2 t', Xt m.pl H H2 → m.ok H2 t' → k ns t' → H2 a = some o → ExO o ns → Q (.ref a) H2) → te σ H Q
/-- as data -/
noncomputable def AE.exa (x : XE K) : AE K := ⟨x.te, fun e t k => x.wp e t fun ns t1 => k (.tuple (ns.map PyData.int)) t1, fun {m B0 B e σ H t k} r h Q q =>
  x.ok r h Q fun a o ns H2 t2 x2 k2 h2 ho he => q _ _ H2 t2 x2 k2 h2 (he.rp (r.up x2 k2).al ho).2⟩
noncomputable def XE.var (K : PySem.W.Frag) (i : Nat) : XE K := ⟨tVar i, fun e t k => rdX e[i]? fun ns => k ns t, fun {m B0 B e σ H t k} r h Q q => by
  obtain ⟨a, o, ns, e1, ho, he, hk⟩ := r.exa h
  exact ⟨.ref a, e1, q a o ns H t (Xt.refl (m.al r.ok)) r.ok hk ho he⟩⟩
/-- x = .. -/
noncomputable def AS.setX (i : Nat) (a : XE K) : AS K := ⟨tAsg a.te (gName i), fun e t k => a.wp e t fun ns t1 => ∀ p o, ExO o ns → k.nx (e.set i (XSl p o ns)) t1, fun {m B0 B1 H0 H1 Dd k} c {B e σ H t} f r h =>
  a.ok r h _ fun p o ns H2 t2 x2 k2 h2 ho he => c.nx (f.step r x2) ((r.up x2 k2).setFn ho he.nl (he.rp (r.up x2 k2).al ho).2) (h2 p o he)⟩
/-- several such tuples -/
noncomputable def ExA (H : Hp) (as : List Addr) (nss : List (List Int)) : Prop := Paired (fun a ns => ∃ o, H a = some o ∧ ExO o ns) as nss
structure XA (K : PySem.W.Frag) where
  ta : TA
  wp : En → Tq → (List (List Int) → Tq → Prop) → Prop
  ok : ∀ {m : Dck} {B0 B : Addr → Prop} {e : En} {σ : L2.St} {H : Hp} {t : Tq} {k : List (List Int) → Tq → Prop}, Rep K m B0 B e σ H t → wp e t k → ∀ Q : List V → Hp → Prop,
    (∀ as nss H2 t', Xt m.pl H H2 → m.ok H2 t' → k nss t' → ExA H2 as nss → Q (as.map V.ref) H2) → ta σ H Q
noncomputable def XA.nil (K : PySem.W.Frag) : XA K := ⟨tNil, fun e t k => k [] t, fun {m B0 B e σ H t k} r h Q q => q [] [] H t (Xt.refl (m.al r.ok)) r.ok h .nil⟩
noncomputable def XA.cons (x : XE K) (xs : XA K) : XA K := ⟨tCons x.te xs.ta, fun e t k => x.wp e t fun ns t1 => xs.wp e t1 fun nss t2 => k (ns :: nss) t2, fun {m B0 B e σ H t k} r h Q q =>
  x.ok r h _ fun p o ns H2 t2 x2 k2 h2 ho he => xs.ok (r.up x2 k2) h2 _ fun as nss H3 t3 x3 k3 h3 ha => by
    have nb := he.nb (r.up x2 k2).al ho
    exact q (p :: as) (ns :: nss) H3 t3 (x2.trans x3) k3 h3 (.cons ⟨o, x3.kp _ _ (fun z => nb ((r.up x2 k2).pb _ z)) ho, he⟩ ha)⟩
theorem ExA.get {H : Hp} : ∀ {as : List Addr} {nss : List (List Int)} {i : Nat} {ns : List Int}, ExA H as nss → nss[i]? = some ns → ∃ a o, as[i]? = some a ∧ H a = some o ∧ ExO o ns
  | _, _, 0, ns, .cons ⟨o, h1, h2⟩ _, e => by
    cases e
    exact ⟨_, o, rfl, h1, h2⟩
  | _, _, i + 1, ns, .cons _ t, e => by
    obtain ⟨a, o, h1, h2, h3⟩ := ExA.get (i := i) t (by simpa using e)
    exact ⟨a, o, by simpa using h1, h2, h3⟩
theorem ExA.rp {B : Addr → Prop} {H : Hp} (al : Al B H) : ∀ {as : List Addr} {nss : List (List Int)}, ExA H as nss → RpA K B H (nss.map fun ns => .tuple (ns.map PyData.int)) (as.map V.ref)
  | _, _, .nil => RpA.nil
  | _, _, .cons ⟨o, h1, h2⟩ t => .cons (h2.rp al h1).2 (ExA.rp al t)
theorem ExA.len {H : Hp} : ∀ {as : List Addr} {nss : List (List Int)}, ExA H as nss → as.length = nss.length
  | _, _, .nil => rfl
  | _, _, .cons _ t => by rw [List.length_cons, List.length_cons, ExA.len t]
end
end CG
namespace CG
open PySem PySem.Spec PyProof.Rows L2
noncomputable def tDispT1 (tk tv : TE) : TE := fun σ H Q => ∀ p, H p = none → tk σ (upd H p (.dT [])) fun x H2 => tv σ H2 fun y H3 => ∃ (b : Addr) (k : List Key), x = .ref b ∧ H3 b = some (.tup (k.map kV)) ∧ H3 p = some (.dT []) ∧ Q (.ref p) (upd H3 p (.dT [(k, y)]))
theorem pe_dispT1 {X : Cx} {pos : Pos} {k v : Expr} {tk tv : TE} (hu : X.A.units + 1 < cLine) (hk : PE X k tk) (hv : PE X v tv) : PE X (.Dict [some k] [v] pos) (tDispT1 tk tv) := by
  refine ⟨fun pins s σ H Q I q => ?_⟩
  have hn := I.hok.fresh (Nat.le_refl s.heap.objs.size)
  have I1 := I.laid (a := s.heap.objs.size) (o := .dT []) (h' := s.heap.push { cls := .type "dict", data := .dict #[] }) (t' := s.toks) (fun _ _ q => Heap.get?_push_of_some _ q) (Nat.le_refl _) (dt_empty s.heap I.big)
  rw [arm_eval_Dict, zip_pairTrees [some k] [v] X.env pos rfl rfl, dictDisplay_pairs _ (by intro z; have := congrArg List.length z; rw [pairTrees_length _ _ _ _ rfl rfl] at this; simp at this) (by rw [pairTrees_length _ _ _ _ rfl rfl]; show 1 < 17; decide)]
  refine wpAny_bind (wpAny_standAt (wpAny_bind (wpAny_subDictH (knd := tupleKind (mixKind X.prog X.w)) (Q := fun d s' => wpAny (model X.prog X.w) X.A (pure (Value.ref d)) (EP X pins σ Q) X.xe s') (show X.A.units < cLine by omega) (by rw [pairTrees_length _ _ _ _ rfl rfl]; show 1 ≤ 15; decide) ?_)))
  refine pairTrees_cons_walk (thn (hk.run pins _ σ _ _ I1 (q _ hn)) fun u s1 ⟨x, H1, I2, rx, q1⟩ => thn (hv.run pins s1 σ H1 _ I2 q1) fun u2 s2 ⟨y, H2, I3, ry, b, kk, ex, eb, ep, q2⟩ => pairTrees_nil_walk ?_)
  subst ex
  obtain rfl : u = Value.ref b := rx
  obtain ⟨z, hd, xs, rel, dd⟩ := dt_of I3.hok ep
  cases rel
  refine ⟨[(kk, b, u2)], ⟨rfl, rfl, key_of I3.hok eb, trivial⟩, dd, fun h' tk dd' hs => wpAny_pure ⟨.ref s.heap.objs.size, _, ?_, rfl, q2⟩⟩
  obtain ⟨o, es, ep2, ho, h2, h3, h4, _, h5⟩ := dd'
  refine d_write I3 (by rw [ep]; exact True.intro) hs ⟨o, ho⟩ ⟨by show 1 ≤ sizeLine; decide, hd, [(kk, b, u2)], .cons ⟨rfl, ?_, ry⟩ .nil, o, es, ep2, ho, h2, h3, h4, h5⟩
  rw [upd_ne (ne_of eb ep (fun z => nomatch z))]
  exact eb
noncomputable abbrev KV2 : Type := (Int × Int) × Int
noncomputable def kvV (e : KV2) : List Key × V := ([.inl e.1.1, .inl e.1.2], .int e.2)
noncomputable def kyD (e : KV2) : PyData := .tuple [.int e.1.1, .int e.1.2]
noncomputable def dDat (ks : List KV2) : PyData := .list (ks.map fun e => .tuple [.int e.1.1, .int e.1.2, .int e.2])
theorem dDat_inj {a b : List KV2} (h : dDat a = dDat b) : a = b := by
  unfold dDat at h
  injection h with h
  have key : ∀ (a b : List KV2), a.map (fun e : KV2 => PyData.tuple [.int e.1.1, .int e.1.2, .int e.2]) = b.map (fun e : KV2 => PyData.tuple [.int e.1.1, .int e.1.2, .int e.2]) → a = b := by
    intro a
    induction a with
    | nil => intro b h; cases b with
      | nil => rfl
      | cons _ _ => simp at h
    | cons x a ih => intro b h; cases b with
      | nil => simp at h
      | cons y b =>
        simp only [List.map_cons, List.cons.injEq, PyData.tuple.injEq, PyData.int.injEq, and_true] at h
        obtain ⟨⟨h1, h2, h3⟩, h4⟩ := h
        obtain ⟨⟨x1, x2⟩, x3⟩ := x
        obtain ⟨⟨y1, y2⟩, y3⟩ := y
        dsimp only at h1 h2 h3
        rw [h1, h2, h3, ih b h4]
  exact key a b h
theorem kv_has {x y : Int} : ∀ {ks : List KV2}, (valV (ks.map kvV) [.inl x, .inl y]).isSome = decide ((x, y) ∈ ks.map Prod.fst)
  | [] => rfl
  | e :: ks => by
    have ih := kv_has (x := x) (y := y) (ks := ks)
    rw [List.map_cons, List.map_cons]
    by_cases c : e.1 = (x, y)
    · rw [valV_pos (p := kvV e) (k := [.inl x, .inl y]) (by unfold kvV; rw [c])]
      rw [decide_eq_true (by rw [c]; exact List.mem_cons_self)]
      rfl
    · rw [valV_neg (p := kvV e) (k := [.inl x, .inl y]) (fun z => c (by
        have z2 : ([.inl e.1.1, .inl e.1.2] : List Key) = [.inl x, .inl y] := z
        simp only [List.cons.injEq, Sum.inl.injEq, and_true] at z2
        exact Prod.ext z2.1 z2.2)), ih]
      refine decide_eq_decide.mpr ⟨fun h => List.mem_cons_of_mem _ h, fun h => ?_⟩
      rcases List.mem_cons.mp h with h | h
      · exact absurd h.symm c
      · exact h
theorem kv_put {x y z : Int} {ks : List KV2} (h : (x, y) ∉ ks.map Prod.fst) : putK (ks.map kvV) [.inl x, .inl y] (.int z) = (ks ++ [((x, y), z)]).map kvV := by
  unfold putK
  have e : ((ks.map kvV).any fun kv => decide (kv.1 = ([.inl x, .inl y] : List Key))) = false := by
    rw [valV_any, kv_has, decide_eq_false h]
  rw [e, if_neg (by decide), List.map_append]
  rfl
/-- the thing i of the deck is such a dict -/
structure Dc (m : Dck) (i : Nat) : Prop where
  us : i ∈ m.us
  pl : m.pl (m.adr i)
  get : ∀ {H : Hp} {t : Tq}, m.ok H t → ∃ ks, t.o i "d" = some (dDat ks) ∧ H (m.adr i) = some (.dT (ks.map kvV))
  put : ∀ {H : Hp} {t : Tq} (ks : List KV2), m.ok H t → m.ok (upd H (m.adr i) (.dT (ks.map kvV))) (t.setO i fun _ => some (dDat ks))
noncomputable def PDc (i : Nat) : Dck → Prop := fun m => Dc m i
/-- a deck of one dict -/
noncomputable def dkT (x : Addr) : Dck where
  pl := fun a => a = x
  D := x
  adr := fun _ => x
  us := [0]
  ok := fun H t => ∃ ks, t.o 0 "d" = some (dDat ks) ∧ H x = some (.dT (ks.map kvV))
  live := fun {H t a} k h => by
    obtain ⟨ks, _, e⟩ := k
    rw [h, e]
    exact trivial
  stay := fun {H H1 t} k h1 h2 h3 h4 => by
    obtain ⟨ks, e, q⟩ := k
    exact ⟨ks, e, h1 x _ rfl q⟩
  fre := fun {H t i o'} hi k => by
    obtain ⟨ks, e, q⟩ := k
    refine ⟨ks, ?_, q⟩
    have n : (0 : Nat) ≠ i := fun z => hi (z ▸ List.mem_cons_self)
    show (if (0 : Nat) = i then o' else t.o 0) "d" = _
    rw [if_neg n]
    exact e
theorem dc_dkT {x : Addr} : Dc (dkT x) 0 := ⟨List.mem_cons_self, rfl, fun k => k, fun ks _ => ⟨ks, by rw [o_set], upd_same⟩⟩
theorem Dc.xt {m : Dck} {i : Nat} {H : Hp} {t : Tq} (h : Dc m i) (k : m.ok H t) (ks : List KV2) : Xt m.pl H (upd H (m.adr i) (.dT (ks.map kvV))) := ⟨fun a o np e => by
  rw [upd_ne (fun z : a = m.adr i => np (by rw [z]; exact h.pl))]
  exact e, fun a pa => m.live (h.put ks k) pa⟩
noncomputable def dcR : Option Sl → (Nat → Prop) → Prop
  | some (.ptr i M), k => M = PDc i ∧ k i
  | _, _ => False
theorem q_dcR {i : Nat} {k : Nat → Prop} : dcR (some (.ptr i (PDc i))) k = k i := by
  show (PDc i = PDc i ∧ k i) = k i
  simp
theorem Rep.dc {K : PySem.W.Frag} {m : Dck} {B0 B : Addr → Prop} {e : En} {σ : L2.St} {H : Hp} {t : Tq} {j : Nat} {k : Nat → Prop} (r : Rep K m B0 B e σ H t) (h : dcR e[j]? k) : ∃ i, σ[j]? = some (some (.ref (m.adr i))) ∧ Dc m i ∧ k i := by
  have s := r.sl j
  cases q : e[j]? with
  | none => rw [q] at h; exact h.elim
  | some x =>
    rw [q] at h s
    cases x with
    | ptr i N =>
      obtain ⟨rfl, hk⟩ : N = PDc i ∧ k i := h
      exact ⟨i, s.1, s.2.2, hk⟩
    | _ => exact h.elim
noncomputable def TSl (a : Addr) (x y : Int) : Sl := .fn a a (.tup [.int x, .int y]) (.tuple [.int x, .int y]) (.ref a)
noncomputable def rdP (s : Option Sl) (k : Int → Int → Prop) : Prop := ∃ a x y, s = some (TSl a x y) ∧ k x y
theorem q_rdP {a : Addr} {x y : Int} {k : Int → Int → Prop} : rdP (some (TSl a x y)) k = k x y := by
  refine propext ⟨fun ⟨a', x', y', e, hk⟩ => ?_, fun hk => ⟨a, x, y, rfl, hk⟩⟩
  unfold TSl at e
  simp only [Option.some.injEq, Sl.fn.injEq, PyData.tuple.injEq, List.cons.injEq, PyData.int.injEq, and_true] at e
  obtain ⟨_, _, _, ⟨e1, e2⟩, _⟩ := e
  rw [e1, e2]
  exact hk
section
variable {K : PySem.W.Frag}
theorem Rep.prA {m : Dck} {B0 B : Addr → Prop} {e : En} {σ : L2.St} {H : Hp} {t : Tq} {i : Nat} {k : Int → Int → Prop} (r : Rep K m B0 B e σ H t) (h : rdP e[i]? k) : ∃ a x y, σ[i]? = some (some (.ref a)) ∧ H a = some (.tup [.int x, .int y]) ∧ Rp K B H (.tuple [.int x, .int y]) (.ref a) ∧ k x y := by
  obtain ⟨a, x, y, e1, hk⟩ := h
  have s := r.sl i
  rw [e1] at s
  exact ⟨a, x, y, s.1.1, s.1.2.1, s.2, hk⟩
/-- the pair of a slot, as data -/
noncomputable def AE.prV (K : PySem.W.Frag) (i : Nat) : AE K := ⟨tVar i, fun e t k => rdP e[i]? fun x y => k (.tuple [.int x, .int y]) t, fun {m B0 B e σ H t k} r h Q q => by
  obtain ⟨a, x, y, e1, e2, rp, hk⟩ := r.prA h
  exact ⟨.ref a, e1, q _ _ H t (Xt.refl (m.al r.ok)) r.ok hk rp⟩⟩
theorem w_prV {i : Nat} : (AE.prV K i).wp = fun e t k => rdP e[i]? fun x y => k (.tuple [.int x, .int y]) t := rfl
theorem t_prV {i : Nat} : (AE.prV K i).te = tVar i := rfl
/-- x = (a, b) -/
noncomputable def AS.setPr (i : Nat) (a b : AE K) : AS K := ⟨tAsg (tTup (tCons a.te (tCons b.te tNil))) (gName i), fun e t k => a.wp e t fun x t1 => b.wp e t1 fun y t2 => unI x fun u => unI y fun v => ∀ p, k.nx (e.set i (TSl p u v)) t2, fun {m B0 B1 H0 H1 Dd k} c {B e σ H t} f r h =>
  a.ok r h _ fun v1 d1 H2 t2 x2 k2 h2 r2 => b.ok (r.up x2 k2) h2 _ fun v2 d2 H3 t3 x3 k3 h3 r3 => by
    obtain ⟨u, rfl, h4⟩ := unI_of h3
    obtain ⟨v, rfl, hk⟩ := unI_of h4
    obtain rfl := rp_int.mp r2
    obtain rfl := rp_int.mp r3
    refine ⟨by show 2 ≤ sizeLine; decide, fun p np => ?_⟩
    have s3 := (r.up x2 k2).up x3 k3
    have sm := same_new (o := .tup [V.int u, .int v]) np
    have s4 := s3.same sm
    have e4 : (upd H3 p (.tup [V.int u, .int v])) p = some (.tup [V.int u, .int v]) := upd_same
    have nb : ¬ B p := s3.al.new np
    exact c.nx (((f.step r x2).step (r.up x2 k2) x3).step s3 (m.xs k3 sm)) (s4.setFn e4 (fun z => z) (rp_tup.mpr ⟨p, _, rfl, .inl nb, .inl (.inl e4), RpA.ints [u, v]⟩)) (hk p)⟩
theorem w_setPr {i : Nat} {a b : AE K} : (AS.setPr i a b).wp = fun e t k => a.wp e t fun x t1 => b.wp e t1 fun y t2 => unI x fun u => unI y fun v => ∀ p, k.nx (e.set i (TSl p u v)) t2 := rfl
theorem t_setPr {i : Nat} {a b : AE K} : (AS.setPr i a b).ts = tAsg (tTup (tCons a.te (tCons b.te tNil))) (gName i) := rfl
noncomputable def rNotInD : R2 := fun y x H Q => ∃ a o, x = V.ref a ∧ DGet H a y o ∧ Q (.bl (!o.isSome)) H
theorem op_notInD {X : Cx} (hu : X.A.units + 1 < cLine) : OpR X (compareOp .NotIn) rNotInD := by
  intro pins s σ H y x u v Q I ry rx h
  obtain ⟨a, o, rfl, g, q⟩ := h
  obtain rfl : v = Value.ref a := rx
  exact d_notIn hu I g ry fun s3 I3 => ⟨.bl (!o.isSome), H, I3, rfl, q⟩
/-- x not in d -/
noncomputable def AE.niD (j i : Nat) : AE K := ⟨tOp rNotInD (tVar j) (tVar i), fun e t k => dcR e[i]? fun n => rdP e[j]? fun x y => ∃ ks, t.o n "d" = some (dDat ks) ∧ k (.bool (!decide ((x, y) ∈ ks.map Prod.fst))) t, fun {m B0 B e σ H t k} r h Q q => by
  obtain ⟨n, e1, hd, h⟩ := r.dc h
  obtain ⟨b, x, y, e2, e3, _, ks, eo, hk⟩ := r.prA h
  obtain ⟨ks', eo', hH⟩ := hd.get r.ok
  rw [eo] at eo'
  obtain rfl := dDat_inj (Option.some.inj eo')
  refine ⟨.ref b, e2, .ref (m.adr n), e1, _, _, rfl, DGet.t (k := [.inl x, .inl y]) hH e3, ?_⟩
  rw [kv_has]
  exact q _ _ H t (Xt.refl (m.al r.ok)) r.ok hk (rp_bl.mpr rfl)⟩
theorem w_niD {j i : Nat} : (AE.niD (K := K) j i).wp = fun e t k => dcR e[i]? fun n => rdP e[j]? fun x y => ∃ ks, t.o n "d" = some (dDat ks) ∧ k (.bool (!decide ((x, y) ∈ ks.map Prod.fst))) t := rfl
theorem t_niD {j i : Nat} : (AE.niD (K := K) j i).te = tOp rNotInD (tVar j) (tVar i) := rfl
/-- d[x] = b, x no key yet -/
noncomputable def AS.putD (i j : Nat) (b : AE K) : AS K := ⟨sDPut (tVar i) (tVar j) b.te, fun e t k => b.wp e t fun d t1 => unI d fun z => dcR e[i]? fun n => rdP e[j]? fun x y => ∃ ks, t1.o n "d" = some (dDat ks) ∧ (x, y) ∉ ks.map Prod.fst ∧ ks.length < 100000 ∧ k.nx e (t1.setO n fun _ => some (dDat (ks ++ [((x, y), z)]))), fun {m B0 B1 H0 H1 Dd k} c {B e σ H t} f r h =>
  b.ok r h _ fun v d H2 t2 x2 k2 h2 r2 => by
    obtain ⟨z, rfl, h3⟩ := unI_of h2
    obtain rfl := rp_int.mp r2
    have s2 := r.up x2 k2
    obtain ⟨n, e1, hd, h4⟩ := s2.dc h3
    obtain ⟨b, x, y, e2, e3, _, ks, eo, nin, hl, hk⟩ := s2.prA h4
    obtain ⟨ks', eo', hH⟩ := hd.get k2
    rw [eo] at eo'
    obtain rfl := dDat_inj (Option.some.inj eo')
    have xx := hd.xt k2 (ks ++ [((x, y), z)])
    have kk := hd.put (ks ++ [((x, y), z)]) k2
    refine ⟨.ref (m.adr n), e1, .ref b, e2, _, _, rfl, DPut.t (k := [.inl x, .inl y]) hH e3 (by rw [List.length_map]; exact Nat.lt_trans hl (by decide)), ?_⟩
    rw [kv_put nin]
    exact c.nx ((f.step r x2).step s2 xx) (s2.up xx kk) hk⟩
theorem w_putD {i j : Nat} {b : AE K} : (AS.putD i j b).wp = fun e t k => b.wp e t fun d t1 => unI d fun z => dcR e[i]? fun n => rdP e[j]? fun x y => ∃ ks, t1.o n "d" = some (dDat ks) ∧ (x, y) ∉ ks.map Prod.fst ∧ ks.length < 100000 ∧ k.nx e (t1.setO n fun _ => some (dDat (ks ++ [((x, y), z)]))) := rfl
theorem t_putD {i j : Nat} {b : AE K} : (AS.putD i j b).ts = sDPut (tVar i) (tVar j) b.te := rfl
/-- list(d) -/
noncomputable def rLstD : List V → Hp → VK → Prop := fun xs H Q => ∃ d kvs, xs = [V.ref d] ∧ Rd H d (.dT kvs) ∧ ∀ p bs, H p = none → IsKeys H kvs bs → Q (.ref p) (upd H p (.lst (bs.map V.ref)))
theorem keys_rp {B : Addr → Prop} {H : Hp} (al : Al B H) : ∀ {ks : List KV2} {bs : List Addr}, IsKeys H (ks.map kvV) bs → RpA K B H (ks.map kyD) (bs.map V.ref)
  | [], _, h => by
    cases h
    exact .nil
  | e :: ks, _, h => by
    cases h with
    | @cons _ b _ bs h1 h2 =>
      have h1' : H b = some (.tup [.int e.1.1, .int e.1.2]) := h1
      refine .cons (rp_tup.mpr ⟨b, _, rfl, .inl (fun z => ?_), .inl (.inl h1'), RpA.ints [e.1.1, e.1.2]⟩) (keys_rp al h2)
      have lv := al b z
      rw [h1'] at lv
      exact lv
noncomputable def AF.keysD (K : PySem.W.Frag) (i : Nat) : AF K := ⟨tCB rLstD (tCons (tVar i) tNil), fun e t k => dcR e[i]? fun n => ∃ ks, t.o n "d" = some (dDat ks) ∧ k (ks.map kyD) t, fun {m B0 B e σ H t k} r h Q q => by
  obtain ⟨n, e1, hd, ks, eo, hk⟩ := r.dc h
  obtain ⟨ks', eo', hH⟩ := hd.get r.ok
  rw [eo] at eo'
  obtain rfl := dDat_inj (Option.some.inj eo')
  refine ⟨.ref (m.adr n), e1, _, _, rfl, .inl hH, fun p bs np hb => ?_⟩
  have s := same_new (o := .lst (bs.map V.ref)) np
  exact q p _ _ _ t np (m.xs r.ok s) (m.same r.ok s) hk upd_same ((RpA.grow (gw_new np) _ _ (keys_rp r.al hb)).up ⟨fun a o _ e => s a o e, al_new r.al⟩)⟩
theorem w_keysD {i : Nat} {e : En} {t : Tq} {k : List PyData → Tq → Prop} : (AF.keysD K i).wp e t k = dcR e[i]? fun n => ∃ ks, t.o n "d" = some (dDat ks) ∧ k (ks.map kyD) t := rfl
theorem t_keysD {i : Nat} : (AF.keysD K i).te = tCB rLstD (tCons (tVar i) tNil) := rfl
end
noncomputable def tBegD (K : PySem.W.Frag) (ik ia jr jk : Nat) : TS := tAsg (tTup (tCons (tLst (tCons (tTup (tCons (tVar ik) (tCons (tVar ia) tNil))) tNil)) (tCons (tDispT1 (tTup (tCons (tVar ik) (tCons (tVar ia) tNil))) (tC (.int 0))) tNil))) (gTup K 2 (gCons (gName jr) (gCons (gName jk) gNil)))
theorem okDc {P : Program} {w : World} {K : PySem.W.Frag} {mg : Str → Option Value} {base : Heap} {x : Str} {st : Stmt} {f : Addr} {fd : FuncData} {N ps : List Str} {k : Nat} {ik ia jr jk : Nat} (h : Has K mg x st ps f fd) (S : FnScope N ps (defScope st)) (b : AS K) (p : Pm)
    (hb : ∀ (cd : Value) (A : Around) (out : List Env) (s : Shared) (H : Hp) (E : XK), A.guards = some [] → Room k (A.deeper (envOfC x (defScope st) s.heap.objs.size f cd)) → ∃ ts, PSs (cxOf CX0 P w K mg base N x (defScope st) f cd A out s H E).nox (defBody st) ts ∧ ts = tSeq (tBegD K ik ia jr jk) b.ts)
    (hw : ∀ ds t (kk : PK), p.w ds t kk → ds.length = ps.length ∧ ∃ y z, ds[ik]? = some (.int y) ∧ ds[ia]? = some (.int z) ∧ b.wp (((startE N (ds.map Sl.dat)).set jr (.dat (.list [.tuple [.int y, .int z]]))).set jk (.ptr 0 (PDc 0))) ((0 : Tq).setO 0 fun _ => some (dDat [((y, z), 0)])) { nx := fun _ _ => kk .none t, rt := fun d _ => kk d t }) : FnG P w K mg base CX0 (k + 1) f fd ps (spA K p) := by
  refine okG h.F S (fun vs H Q E h => ?_) (fun cd A out s H vs Q E hgd hr h => ?_)
  · obtain ⟨m, B, t, ds, al, pb, ok, ra, hp⟩ := h
    rw [← ra.length]
    exact (hw ds t _ hp).1
  · obtain ⟨m, B, t, ds, al, pb, ok, ra, hp⟩ := h
    obtain ⟨ts, hts, rfl⟩ := hb cd A out s H E hgd hr
    refine ⟨_, hts, ?_⟩
    obtain ⟨_, y, z, ey, ez, hq⟩ := hw ds t _ hp
    have r : Rep K m B B (startE N (ds.map Sl.dat)) (L2.start N vs) H t := rep_args al pb ok (by rw [List.length_map]; exact ra.length) (rep_dats ra) (fun x hx es => by
      obtain ⟨d, _, rfl⟩ := List.mem_map.mp hx
      intro z
      cases z)
    have at_ : ∀ {i : Nat} {u : Int}, ds[i]? = some (.int u) → (startE N (ds.map Sl.dat))[i]? = some (.dat (.int u)) := fun {i u} e => by
      unfold startE
      rw [List.getElem?_append_left (by rw [List.length_map]; exact (List.getElem?_eq_some_iff.mp e).1), List.getElem?_map, e]
      rfl
    have vr : ∀ {i : Nat} {u : Int}, ds[i]? = some (.int u) → (L2.start N vs)[i]? = some (some (.int u)) := fun {i u} e => by
      have q := r.sl i
      rw [at_ e] at q
      obtain ⟨v, e1, rv⟩ := q
      rw [rp_int.mp rv] at e1
      exact e1
    have vy := vr ey
    have vz := vr ez
    refine ⟨.int y, vy, .int z, vz, by show 2 ≤ sizeLine; decide, fun q nq => ⟨by show 1 ≤ sizeLine; decide, fun l nl => fun x nx => ⟨.int y, vy, .int z, vz, by show 2 ≤ sizeLine; decide, fun q2 nq2 => ?_⟩⟩⟩
    generalize hHl : upd (upd H q (.tup [V.int y, .int z])) l (.lst [.ref q]) = Hl at nx nq2 ⊢
    have smq := same_new (o := .tup [V.int y, .int z]) nq
    have sml : Same H Hl := by
      rw [← hHl]
      exact smq.trans (same_new nl)
    have non : ∀ {a : Addr}, Hl a = none → H a = none := fun {a} e => by
      cases c : H a with
      | none => rfl
      | some o =>
        rw [sml a o c] at e
        cases e
    have hl : Hl l = some (.lst [.ref q]) := by rw [← hHl]; exact upd_same
    have lq : q ≠ l := fun w => by
      rw [← w, upd_same] at nl
      cases nl
    have hq' : Hl q = some (.tup [V.int y, .int z]) := by rw [← hHl, upd_ne lq]; exact upd_same
    have nH_l : H l = none := by
      cases c : H l with
      | none => rfl
      | some o =>
        rw [smq l o c] at nl
        cases nl
    have xl : l ≠ x := fun w => by
      rw [w, nx] at hl
      cases hl
    have xq : q ≠ x := fun w => by
      rw [w, nx] at hq'
      cases hq'
    have x2 : x ≠ q2 := fun w => by
      rw [← w, upd_same] at nq2
      cases nq2
    refine ⟨q2, [.inl y, .inl z], rfl, upd_same, by rw [upd_ne x2]; exact upd_same, by show 2 ≤ sizeLine; decide, fun u nu => ?_⟩
    refine ⟨u, _, rfl, SqT.of upd_same, rfl, .ref l, _, rfl, .ref x, _, rfl, rfl, ?_⟩
    obtain ⟨H9, hH9⟩ : ∃ H9, H9 = upd (upd (upd Hl x (.dT [])) q2 (.tup [V.int y, .int z])) x (.dT [(([.inl y, .inl z] : List Key), V.int 0)]) := ⟨_, rfl⟩
    rw [← hH9] at nu
    obtain ⟨H2, hH2⟩ : ∃ H2, H2 = upd H9 u (.tup [.ref l, .ref x]) := ⟨_, rfl⟩
    have s9 : Same H9 H2 := by rw [hH2]; exact same_new nu
    have sl2 : Same Hl H2 := fun a o e => by
      have n1 : a ≠ x := fun w => by rw [w, nx] at e; cases e
      have n2 : a ≠ q2 := fun w => by
        rw [upd_ne x2.symm, ← w, e] at nq2
        cases nq2
      refine s9 a o ?_
      rw [hH9, upd_ne n1, upd_ne n2, upd_ne n1]
      exact e
    have sm : Same H H2 := sml.trans sl2
    have hx2 : H2 x = some (.dT ([((y, z), 0)].map kvV)) := s9 _ _ (by rw [hH9]; exact upd_same)
    have nHx : H x = none := non nx
    show b.ts _ ((((L2.start N vs).set jr (some (.ref l))).set jk (some (.ref x)))) _
    rw [← hH9, ← hH2]
    have al2 : Al (Bp B x) H2 := fun a h => by
      rcases h with h | h
      · have lv := al a h
        cases c : H a with
        | none => exact absurd c lv.ne
        | some o =>
          rw [c] at lv
          rw [sm a o c]
          exact lv
      · rw [h, hx2]
        exact trivial
    have ra2 : RpA K (Bp B x) H2 ds vs := (RpA.grow (gw_new nHx) _ _ ra).up ⟨fun a o _ e => sm a o e, al2⟩
    have ok2 : (dkT x).ok H2 ((0 : Tq).setO 0 fun _ => some (dDat [((y, z), 0)])) := ⟨_, by rw [o_set], hx2⟩
    have nbl : ¬ Bp B x l := fun h => h.elim (al.new nH_l) xl
    have nbq : ¬ Bp B x q := fun h => h.elim (al.new nq) xq
    have rp : Rp K (Bp B x) H2 (.list [.tuple [.int y, .int z]]) (.ref l) := rp_lst.mpr ⟨l, [.ref q], rfl, nbl, sl2 _ _ hl, .cons (rp_tup.mpr ⟨q, _, rfl, .inl nbq, .inl (.inl (sl2 _ _ hq')), RpA.ints [y, z]⟩) .nil⟩
    have r2 : Rep K (dkT x) (Bp B x) (Bp B x) (startE N (ds.map Sl.dat)) (L2.start N vs) H2 ((0 : Tq).setO 0 fun _ => some (dDat [((y, z), 0)])) := rep_args al2 (fun a e => .inr e) ok2 (by rw [List.length_map]; exact ra.length) (rep_dats ra2) (fun x hx es => by
      obtain ⟨d, _, rfl⟩ := List.mem_map.mp hx
      intro z
      cases z)
    have r3 := (r2.set (i := jr) rp).setPt (j := jk) (N := PDc 0) (i := 0) List.mem_cons_self dc_dkT
    have back : ∀ {H' : Hp}, Xt (dkT x).pl H2 H' → Same H H' := fun {H'} y a o e => y.kp a o (fun w => by
      have w' : a = x := w
      rw [w', nHx] at e
      cases e) (sm a o e)
    refine b.ok (m := dkT x) (B0 := Bp B x) (B1 := Bp B x) (H0 := H2) (H1 := H2) (k := { nx := fun _ _ => ∀ v H', Xt m.pl H H' → m.ok H' t → Rp K B H' .none v → Q v H', rt := fun d _ => ∀ v H', Xt m.pl H H' → m.ok H' t → Rp K B H' d v → Q v H' }) ⟨fun f r h => ?_, fun _ _ h => h.elim, fun _ _ h => h.elim, fun y k h r => ?_⟩ ⟨⟨fun _ h => h, fun _ h => .inl h⟩, Xt.refl ((dkT x).al ok2), fun _ h => .inl h, Xt.refl al2⟩ r3 hq
    · have s := back f.x0
      exact h .non _ (m.xs ok s) (m.same ok s) (rp_non.mpr rfl)
    · have s := back y
      exact h _ _ (m.xs ok s) (m.same ok s) (Rp.less bp_up _ _ r)
end CG
namespace CG
open PySem PySem.Spec PyProof.Rows L2
open PySem.W (dataLe EachIs sorted_data dataLe_int alike)
noncomputable def sortI (ns : List Int) : List Int := ns.mergeSort fun x y => decide (x ≤ y)
theorem sortI_perm (ns : List Int) : (sortI ns).Perm ns := List.mergeSort_perm _ _
theorem sortI_asc (ns : List Int) : (sortI ns).Pairwise (· ≤ ·) := (List.pairwise_mergeSort (le := fun x y : Int => decide (x ≤ y)) (fun a b c h1 h2 => decide_eq_true (Int.le_trans (of_decide_eq_true h1) (of_decide_eq_true h2))) (fun a b => by
  rcases Int.le_total a b with h | h <;> simp [h]) ns).imp fun h => of_decide_eq_true h
theorem sortI_uniq {ns ms : List Int} (h : ms.Pairwise (· ≤ ·)) (p : ms.Perm ns) : sortI ns = ms := List.Perm.eq_of_pairwise (le := fun x y : Int => x ≤ y) (fun a b _ _ h1 h2 => Int.le_antisymm h1 h2) (sortI_asc ns) h ((sortI_perm ns).trans p.symm)
noncomputable def rSortI (K : PySem.W.Frag) : List V → Hp → VK → Prop := fun vs H Q => ∃ (a : Addr) (ns : List Int), vs = [V.ref a] ∧ SqL K H a (ns.map V.int) ∧ ns.length ≤ sizeLine ∧ ∀ p, H p = none → Q (.ref p) (upd H p (.lst ((sortI ns).map V.int)))
theorem each_int : ∀ {ns : List Int} {us : List Value}, Vals (ns.map V.int) us → EachIs (fun u (i : Int) => RelV (.int i) u) us ns
  | [], _, .nil => .nil
  | i :: ns, _, .cons r t => .cons r (each_int t)
theorem int_each : ∀ {ns : List Int} {us : List Value}, EachIs (fun u (i : Int) => RelV (.int i) u) us ns → Vals (ns.map V.int) us
  | [], _, .nil => .nil
  | i :: ns, _, .cons r t => .cons r (int_each t)
theorem int_reads {h : Heap} : ∀ {ns : List Int} {us : List Value}, Vals (ns.map V.int) us → EachIs (fun u (i : Int) => ∃ as, Reads h u (.int i) as) us ns
  | [], _, .nil => .nil
  | i :: ns, _, .cons r t => .cons (by
      obtain ⟨tk, rfl⟩ := r
      exact ⟨[], .int _ _⟩) (int_reads t)
theorem call_sortI {X : Cx} (hu : X.A.units + 64 < cLine) : CallR X (.builtin "sorted") (rSortI X.K) := by
  intro pins s σ H vs us Q I r h
  obtain ⟨a, ns, rfl, hs, hL, q⟩ := h
  obtain ⟨its, rv, hl, _⟩ := I.list hs
  rw [Vals.ref1 r]
  refine sorted_data (R := fun u (i : Int) => RelV (.int i) u) (enc := fun i : Int => .int i) hl.isList (each_int rv) (int_reads rv) ?_ ?_ hL ?_ fun out h1 h2 => ?_
  · exact PySem.W.AllAlike.of fun b b' => rfl
  · exact .inr fun d hd => by
      obtain ⟨i, _, rfl⟩ := List.mem_map.mp hd
      exact ⟨fun z => (nomatch z), fun xs z => (nomatch z)⟩
  · intro i hi
    show X.A.units + 2 + 0 < cLine
    omega
  · obtain ⟨ep, he'⟩ := PyProof.Rows.sortedAll_at s.heap its out.toArray
    rw [dataLe_int (fun i : Int => i)] at h2
    have hlen : ((sortI ns).map V.int).length ≤ sizeLine := by rw [List.length_map, (sortI_perm ns).length_eq]; exact hL
    exact ⟨.ref _, upd H (s.heap.objs.size + 1) (.lst ((sortI ns).map V.int)), I.laid (t' := s.toks) (fun _ _ => PyProof.Rows.sortedAll_old) (Nat.le_succ _) ⟨hlen, out, ep, int_each h2, by simpa using he'⟩, rfl, q _ (I.hok.fresh (Nat.le_succ _))⟩
section
variable {K : PySem.W.Frag}
noncomputable def sortIF : List PyData → (PyData → Prop) → Prop
  | [.list ds], k => ∃ ns : List Int, ds = ns.map PyData.int ∧ ns.length ≤ 1000000 ∧ k (.list ((sortI ns).map PyData.int))
  | _, _ => False
noncomputable def aSortI (K : PySem.W.Frag) : AC K := ⟨rSortI K, sortIF, fun {B as k} h => by
  unfold sortIF at h
  split at h
  · obtain ⟨ns, rfl, hl, hk⟩ := h
    refine ⟨_, hk, fun H1 xs al h Q q => ?_⟩
    obtain ⟨y, r, rfl, h1, h2⟩ := rpa_cons.mp h
    obtain rfl := rpa_nil.mp h2
    obtain ⟨a, xs, rfl, na, s, t⟩ := rp_lst.mp h1
    obtain rfl : xs = ns.map V.int := RpA.ints_inv t
    exact ⟨a, ns, rfl, SqL.of s, Nat.le_trans hl (by decide), fun p np => q _ _ (same_new np) (rp_lst.mpr ⟨p, _, rfl, al.new np, upd_same, RpA.ints _⟩)⟩
  · exact h.elim⟩
theorem f_aSortI : (aSortI K).f = sortIF := rfl
theorem t_aSortI : (aSortI K).r = rSortI K := rfl
end
end CG
namespace PySem
end PySem
namespace CG
open PySem PySem.Spec PyProof.Rows L2
theorem viewS_ptr {i : Nat} {M : Dck → Prop} : viewS (.ptr i M) = .ptr i M := rfl
/-- a class of errors and the field that it has -/
structure Er where
  C : Addr
  fl : Option Str
noncomputable def ErAt (K : PySem.W.Frag) (B : Addr → Prop) (H : Hp) (e : Er) (x : PyData) (dd : Option Addr) : Prop := match e.fl with
  | none => dd = none
  | some f => ∃ d v, dd = some d ∧ H d = some (.xd [(f, v)]) ∧ Rp K B H x v
noncomputable abbrev KX := Nat → PyData → Tq → Prop
section
variable {K : PySem.W.Frag}
theorem ErAt.less {B B' : Addr → Prop} {H : Hp} {e : Er} {x : PyData} {dd : Option Addr} (h : ErAt K B' H e x dd) (g : ∀ a, B a → B' a) : ErAt K B H e x dd := by
  unfold ErAt at h ⊢
  split at h
  · exact h
  · obtain ⟨d, v, e1, e2, r⟩ := h
    exact ⟨d, v, e1, e2, Rp.less g _ _ r⟩
/-- what is wanted of the errors -/
structure RzZ (K : PySem.W.Frag) (m : Dck) (B0 : Addr → Prop) (H0 : Hp) (er : Nat → Er) (W : WX) (kx : KX) : Prop where
  tk : ∀ (σ : L2.St) (H' : Hp) (t' : Tq) (n : Nat) (x : PyData) (dd : Option Addr), Xt m.pl H0 H' → m.ok H' t' → kx n x t' → ErAt K B0 H' (er n) x dd → W (.ref (er n).C) dd σ H'
section
variable {m : Dck} {B0 : Addr → Prop} {H0 : Hp} {er : Nat → Er} {W : WX} {kx : KX} {C : Addr} {nms : List Str}
/-- an expression that may raise, with what is wanted of its errors -/
structure AEY (K : PySem.W.Frag) (er : Nat → Er) where
  te : (L2.St → XK) → TE
  wp : En → Tq → PK → KX → Prop
  ok : ∀ {m : Dck} {B0 B : Addr → Prop} {e : En} {σ : L2.St} {H : Hp} {t : Tq} {k : PK} {kx : KX}, Rep K m B0 B e σ H t → wp e t k kx → ∀ (Q : VK) (E : L2.St → XK), (∀ v d H' t', Xt m.pl H H' → m.ok H' t' → k d t' → Rp K B H' d v → Q v H') →
    (∀ n x t' dd H', kx n x t' → Xt m.pl H H' → m.ok H' t' → ErAt K B H' (er n) x dd → E σ (.ref (er n).C) dd H') → te E σ H Q
noncomputable def AEY.of (a : AE K) : AEY K er := ⟨fun _ => a.te, fun e t k _ => a.wp e t k, fun {m B0 B e σ H t k kx} r h Q E q q2 => a.ok r h Q q⟩
theorem ErAt.up {B : Addr → Prop} {H H' : Hp} {e : Er} {x : PyData} {dd : Option Addr} (h : ErAt K B H e x dd) (s : Same H H') (al : Al B H) : ErAt K B H' e x dd := by
  unfold ErAt at h ⊢
  split at h
  · exact h
  · obtain ⟨d, v, e1, e2, r⟩ := h
    exact ⟨d, v, e1, s _ _ e2, r.up (Xt.of al s)⟩
noncomputable def AX.zraise (z : RzZ K m B0 H0 er W kx) (n : Nat) {fl : Str} (hf : (er n).fl = some fl) (a : AE K) : AX K m B0 H0 := ⟨tRz fl (er n).C W (tCons a.te tNil), fun e t _ => a.wp e t fun x t1 => kx n x t1, fun {B1 H1 Dd k} c {B e σ H t} f r h =>
  a.ok r h _ fun v x H2 t2 x2 k2 h2 r2 => ⟨v, rfl, fun d nd => by
    have x3 := m.xs k2 (same_new (o := .xd [(fl, v)]) nd)
    refine z.tk σ _ t2 n x (some d) (f.x0.trans (x2.trans x3)) (m.same k2 (same_new nd)) h2 ?_
    unfold ErAt
    rw [hf]
    exact ⟨d, v, rfl, upd_same, Rp.less f.g0.up _ _ (r2.up (Xt.of (r.up x2 k2).al (same_new nd)))⟩⟩⟩
theorem w_zraise {z : RzZ K m B0 H0 er W kx} {n : Nat} {fl : Str} {hf : (er n).fl = some fl} {a : AE K} : (AX.zraise z n hf a).wp = fun e t _ => a.wp e t fun x t1 => kx n x t1 := rfl
theorem t_zraise {z : RzZ K m B0 H0 er W kx} {n : Nat} {fl : Str} {hf : (er n).fl = some fl} {a : AE K} : (AX.zraise z n hf a).ts = tRz fl (er n).C W (tCons a.te tNil) := rfl
end
end
end CG
namespace CG
open PySem PySem.Spec PyProof.Rows L2
/-- isinstance(e, c), isinstance(e, (c, ..)), e the caught error at a -/
noncomputable def rIsE (K : PySem.W.Frag) (cls : Value) (d : Option Addr) (a : Addr) : List V → Hp → VK → Prop := fun xs H Q => ∃ D : Addr, cls = .ref D ∧ ExcC K D ∧ (d = none ∨ ∃ dd fs, d = some dd ∧ H dd = some (.xd fs)) ∧
  ((∃ (c : V) (cv : Value) (b : Bool), xs = [.ref a, c] ∧ clsOf c = some cv ∧ PySem.W.kitOne K (.ref D) cv = some b ∧ Q (.bl b) H) ∨
    ∃ (t : Addr) (cs : List V) (cvs : List Value) (b : Bool), xs = [.ref a, .ref t] ∧ H t = some (.tup cs) ∧ cs.map clsOf = cvs.map some ∧ PySem.W.kitAny K (.ref D) cvs = some b ∧ Q (.bl b) H)
theorem call_isE {X : Cx} {a : Addr} {cls : Value} {d : Option Addr} {oe : Obj} {pn : List (Addr × Obj)} (hz : Zc cls d oe) (hf : ∃ vs, oe.data = .fields vs) : CallR (X.suite a ((a, oe) :: pn)) (.builtin "isinstance") (rIsE X.K cls d a) := by
  intro pins s σ H xs us Q I r h
  obtain ⟨D, rfl, ec, hd, h⟩ := h
  rcases hd with rfl | ⟨dd, fs, rfl, hdd⟩
  · obtain ⟨hget, _⟩ := I.pin (a, oe) (List.mem_append.mpr (.inl List.mem_cons_self))
    obtain ⟨gs, hv⟩ := hf
    have J : PySem.W.InstAt s.heap a oe D none := ⟨hget, hz.1, by unfold PySem.W.notCls; rw [hv] <;> rfl, by rw [hz.2]; trivial⟩
    have hcl : (PySem.W.clsIn X.K D).isSome = true := by
      obtain ⟨cd, hc, _⟩ := PySem.W.any_some ec.hd
      rw [hc]
      rfl
    have Z := PySem.W.kitx_exc (x := a) (ox := oe) (od := none) (gt := none) hcl ec.hg ec.hk ec.hs ec.ha ec.hn ec.ht ec.hm
    rcases h with ⟨c, cv, b, rfl, hc, e, q⟩ | ⟨t, cs, cvs, b, rfl, hT, hc, e, q⟩
    · obtain ⟨u1, u2, rfl, r1, r2⟩ := vals2 r
      obtain rfl : u1 = Value.ref a := r1
      obtain rfl := clsOf_is r2 hc
      exact PySem.W.kia_one Z I.kIn J e (fun z => nomatch z) fun tk => ⟨.bl b, H, I.kept (t' := tk) fun _ _ z => z, rfl, q⟩
    · obtain ⟨u1, u2, rfl, r1, r2⟩ := vals2 r
      obtain rfl : u1 = Value.ref a := r1
      obtain rfl : u2 = Value.ref t := r2
      have hO : ObjOk X.prog X.w H s.heap t (.tup cs) := I.hok t _ hT
      obtain ⟨_, its, rv, o, h1, h2, n, h3⟩ := hO
      obtain rfl := vals_cls rv hc
      obtain ⟨oc, odd, dt, sl⟩ := o
      simp only at h2 h3
      subst h2 h3
      exact PySem.W.kia_tup Z I.kIn J h1 e (fun z => nomatch z) fun tk => ⟨.bl b, H, I.kept (t' := tk) fun _ _ z => z, rfl, q⟩
  · refine call_isY (dd := dd) (fs := fs) ec hz hf pins s σ H xs us Q I r ⟨rfl, rfl, hdd, ?_⟩
    exact h
noncomputable def tFldE (fl : Str) (C : Addr) (a : Addr) (cls : Value) (d : Option Addr) (te : TE) : TE := fun σ H Q => te σ H fun x H1 => x = .ref a ∧ cls = .ref C ∧ ∃ (dd : Addr) (v : V), d = some dd ∧ H1 dd = some (.xd [(fl, v)]) ∧ Q v H1
section
variable {K : PySem.W.Frag} {er : Nat → Er} {i : Nat}
theorem ErAt.xt {m : Dck} {B0 B : Addr → Prop} {en : En} {σ : L2.St} {H H' : Hp} {t : Tq} {e : Er} {x : PyData} {dd : Option Addr} (h : ErAt K B H e x dd) (r : Rep K m B0 B en σ H t) (s : Xt m.pl H H') : ErAt K B H' e x dd := by
  unfold ErAt at h ⊢
  split at h
  · exact h
  · obtain ⟨d, v, e1, e2, rv⟩ := h
    refine ⟨d, v, e1, s.kp d _ (fun p => ?_) e2, rv.up (r.wd s)⟩
    have lv := m.live r.ok p
    rw [e2] at lv
    exact lv
theorem ErAt.dict {B : Addr → Prop} {H : Hp} {e : Er} {x : PyData} {dd : Option Addr} (h : ErAt K B H e x dd) : dd = none ∨ ∃ d fs, dd = some d ∧ H d = some (.xd fs) := by
  unfold ErAt at h
  split at h
  · exact .inl h
  · obtain ⟨d, v, e1, e2, _⟩ := h
    exact .inr ⟨d, _, e1, e2⟩
structure HE (K : PySem.W.Frag) (er : Nat → Er) (i : Nat) where
  te : Addr → Value → Option Addr → TE
  wp : Nat → PyData → En → Tq → PK → Prop
  ok : ∀ {m : Dck} {B0 B : Addr → Prop} {e : En} {σ : L2.St} {H : Hp} {t : Tq} {k : PK} {n : Nat} {x : PyData} {a : Addr} {dd : Option Addr}, Rep K m B0 B e σ H t → ErAt K B H (er n) x dd → σ[i]? = some (some (.ref a)) → wp n x e t k → ∀ Q : VK, (∀ v d H' t', Xt m.pl H H' → m.ok H' t' → k d t' → Rp K B H' d v → Q v H') → te a (.ref (er n).C) dd σ H Q
structure HA (K : PySem.W.Frag) (er : Nat → Er) (i : Nat) where
  ta : Addr → Value → Option Addr → TA
  wp : Nat → PyData → En → Tq → (List PyData → Tq → Prop) → Prop
  ok : ∀ {m : Dck} {B0 B : Addr → Prop} {e : En} {σ : L2.St} {H : Hp} {t : Tq} {k : List PyData → Tq → Prop} {n : Nat} {x : PyData} {a : Addr} {dd : Option Addr}, Rep K m B0 B e σ H t → ErAt K B H (er n) x dd → σ[i]? = some (some (.ref a)) → wp n x e t k → ∀ Q : List V → Hp → Prop, (∀ vs ds H' t', Xt m.pl H H' → m.ok H' t' → k ds t' → RpA K B H' ds vs → Q vs H') → ta a (.ref (er n).C) dd σ H Q
structure HT (K : PySem.W.Frag) (er : Nat → Er) (i : Nat) where
  tt : Addr → Value → Option Addr → TT
  wp : Nat → PyData → En → Tq → (Bool → Tq → Prop) → Prop
  ok : ∀ {m : Dck} {B0 B : Addr → Prop} {e : En} {σ : L2.St} {H : Hp} {t : Tq} {k : Bool → Tq → Prop} {n : Nat} {x : PyData} {a : Addr} {dd : Option Addr}, Rep K m B0 B e σ H t → ErAt K B H (er n) x dd → σ[i]? = some (some (.ref a)) → wp n x e t k → ∀ Q : Bool → Hp → Prop, (∀ b H' t', Xt m.pl H H' → m.ok H' t' → k b t' → Q b H') → tt a (.ref (er n).C) dd σ H Q
noncomputable def HE.of (x : AE K) : HE K er i := ⟨fun _ _ _ => x.te, fun _ _ e t k => x.wp e t k, fun {m B0 B e σ H t k n xx a dd} r ea hs h Q q => x.ok r h Q q⟩
noncomputable def HE.fld (D : Addr) (fl : Str) : HE K er i := ⟨fun a cls d => tFldE fl D a cls d (tVar i), fun n x e t k => (er n).C = D ∧ (er n).fl = some fl ∧ k x t, fun {m B0 B e σ H t k n xx a dd} r ea hs h Q q => by
  obtain ⟨h1, h2, h3⟩ := h
  unfold ErAt at ea
  rw [h2] at ea
  obtain ⟨d, v, e1, e2, rv⟩ := ea
  exact ⟨_, hs, rfl, by rw [h1], d, v, e1, e2, q v xx H t (Xt.refl (m.al r.ok)) r.ok h3 rv⟩⟩
/-- isinstance(e, c) -/
noncomputable def HE.isE (c : V) : HE K er i := ⟨fun a cls d => tCB (rIsE K cls d a) (tCons (tVar i) (tCons (tC c) tNil)), fun n _ e t k => ∃ cv b, clsOf c = some cv ∧ PySem.W.kitOne K (.ref (er n).C) cv = some b ∧ ExcC K (er n).C ∧ k (.bool b) t, fun {m B0 B e σ H t k n xx a dd} r ea hs h Q q => by
  obtain ⟨cv, b, h1, h2, h3, h4⟩ := h
  exact ⟨_, hs, _, rfl, h3, ea.dict, .inl ⟨c, cv, b, rfl, h1, h2, q _ _ H t (Xt.refl (m.al r.ok)) r.ok h4 (rp_bl.mpr rfl)⟩⟩⟩
noncomputable def tCs : List V → TA
  | [] => tNil
  | c :: cs => tCons (tC c) (tCs cs)
theorem tCs_ok {σ : L2.St} {H : Hp} : ∀ {cs : List V} {Q : List V → Hp → Prop}, Q cs H → tCs cs σ H Q
  | [], Q, h => h
  | c :: cs, Q, h => tCs_ok (cs := cs) (Q := fun vs H1 => Q (c :: vs) H1) h
/-- isinstance(e, (c, ..)) -/
noncomputable def HE.isEs (cs : List V) : HE K er i := ⟨fun a cls d => tCB (rIsE K cls d a) (tCons (tVar i) (tCons (tTup (tCs cs)) tNil)), fun n _ e t k => ∃ cvs b, cs.map clsOf = cvs.map some ∧ cs.length ≤ 1000 ∧ PySem.W.kitAny K (.ref (er n).C) cvs = some b ∧ ExcC K (er n).C ∧ k (.bool b) t, fun {m B0 B e σ H t k n xx a dd} r ea hs h Q q => by
  obtain ⟨cvs, b, h1, hl, h2, h3, h4⟩ := h
  refine ⟨_, hs, tCs_ok ⟨Nat.le_trans hl (by decide), fun p np => ?_⟩⟩
  have x1 := m.xs r.ok (same_new (o := .tup cs) np)
  exact ⟨_, rfl, h3, (ea.xt r x1).dict, .inr ⟨p, cs, cvs, b, rfl, upd_same, h1, h2, q _ _ _ t x1 (m.same r.ok (same_new np)) h4 (rp_bl.mpr rfl)⟩⟩⟩
noncomputable def HA.nil : HA K er i := ⟨fun _ _ _ => tNil, fun _ _ _ t k => k [] t, fun {m B0 B e σ H t k n xx a dd} r ea hs h Q q => q _ _ H t (Xt.refl (m.al r.ok)) r.ok h RpA.nil⟩
noncomputable def HA.cons (x : HE K er i) (y : HA K er i) : HA K er i := ⟨fun a cls d => tCons (x.te a cls d) (y.ta a cls d), fun n xx e t k => x.wp n xx e t fun d t1 => y.wp n xx e t1 fun ds t2 => k (d :: ds) t2, fun {m B0 B e σ H t k n xx a dd} r ea hs h Q q =>
  x.ok r ea hs h _ fun v d H1 t1 x1 k1 h1 r1 => y.ok (r.up x1 k1) (ea.xt r x1) hs h1 _ fun vs ds H2 t2 x2 k2 h2 r2 => q _ _ H2 t2 (x1.trans x2) k2 h2 (.cons (r1.up ((r.up x1 k1).wd x2)) r2)⟩
noncomputable def HE.lst (x : HA K er i) : HE K er i := ⟨fun a cls d => tLst (x.ta a cls d), fun n xx e t k => x.wp n xx e t fun ds t1 => ds.length ≤ 100000 ∧ k (.list ds) t1, fun {m B0 B e σ H t k n xx a dd} r ea hs h Q q =>
  x.ok r ea hs h _ fun vs ds H1 t1 x1 k1 h1 r1 => ⟨by rw [← r1.length]; exact Nat.le_trans h1.1 (by decide), fun p np =>
    q _ _ _ t1 (x1.trans (m.xs k1 (same_new np))) (m.same k1 (same_new np)) h1.2 (rp_lst.mpr ⟨p, vs, rfl, (r.up x1 k1).al.new np, upd_same, r1.up (Xt.of (r.up x1 k1).al (same_new np))⟩)⟩⟩
noncomputable def HT.of (x : AT K) : HT K er i := ⟨fun _ _ _ => x.tt, fun _ _ e t k => x.wp e t k, fun {m B0 B e σ H t k n xx a dd} r ea hs h Q q => x.ok r h Q q⟩
noncomputable def HT.b (x : HE K er i) : HT K er i := ⟨fun a cls d => tB (x.te a cls d), fun n xx e t k => x.wp n xx e t fun d t1 => unB d fun b => k b t1, fun {m B0 B e σ H t k n xx a dd} r ea hs h Q q =>
  x.ok r ea hs h _ fun v d H1 t1 x1 k1 h1 r1 => by
    obtain ⟨b, rfl, hb⟩ := unB_of h1
    exact ⟨b, rp_bl.mp r1, q b H1 t1 x1 k1 hb⟩⟩
noncomputable def HT.and (x y : HT K er i) : HT K er i := ⟨fun a cls d => tAnd (x.tt a cls d) (y.tt a cls d), fun n xx e t k => x.wp n xx e t fun c t1 => if c = true then y.wp n xx e t1 k else k false t1, fun {m B0 B e σ H t k n xx a dd} r ea hs h Q q =>
  x.ok r ea hs h _ fun c H1 t1 x1 k1 h1 => by
    cases c with
    | true =>
      rw [if_pos rfl] at h1 ⊢
      exact y.ok (r.up x1 k1) (ea.xt r x1) hs h1 _ fun c H2 t2 x2 k2 h2 => q c H2 t2 (x1.trans x2) k2 h2
    | false =>
      rw [if_neg (by decide)] at h1 ⊢
      exact q _ H1 t1 x1 k1 h1⟩
noncomputable def HT.or (x y : HT K er i) : HT K er i := ⟨fun a cls d => tOr (x.tt a cls d) (y.tt a cls d), fun n xx e t k => x.wp n xx e t fun c t1 => if c = true then k true t1 else y.wp n xx e t1 k, fun {m B0 B e σ H t k n xx a dd} r ea hs h Q q =>
  x.ok r ea hs h _ fun c H1 t1 x1 k1 h1 => by
    cases c with
    | true =>
      rw [if_pos rfl] at h1 ⊢
      exact q _ H1 t1 x1 k1 h1
    | false =>
      rw [if_neg (by decide)] at h1 ⊢
      exact y.ok (r.up x1 k1) (ea.xt r x1) hs h1 _ fun c H2 t2 x2 k2 h2 => q c H2 t2 (x1.trans x2) k2 h2⟩
/-- a suite -/
structure HS (K : PySem.W.Frag) (er : Nat → Er) (i : Nat) where
  ts : Addr → Value → Option Addr → TS
  wp : Nat → PyData → En → Tq → Kn → Prop
  ok : ∀ {m : Dck} {B0 B1 : Addr → Prop} {H0 H1 : Hp} {Dd : Ends} {k : Kn}, Cn K m B0 H0 B1 H1 k Dd → ∀ {B : Addr → Prop} {e : En} {σ : L2.St} {H : Hp} {t : Tq} {n : Nat} {x : PyData} {a : Addr} {dd : Option Addr}, Fr m B0 H0 B1 H1 B H → Rep K m B0 B e σ H t → ErAt K B H (er n) x dd → σ[i]? = some (some (.ref a)) → wp n x e t k → ts a (.ref (er n).C) dd Dd σ H
noncomputable def HS.of (s : AS K) : HS K er i := ⟨fun _ _ _ => s.ts, fun _ _ e t k => s.wp e t k, fun {m B0 B1 H0 H1 Dd k} c {B e σ H t n xx a dd} f r ea hs h => s.ok c f r h⟩
noncomputable def HS.set (j : Nat) (x : HE K er i) : HS K er i := ⟨fun a cls d => tAsg (x.te a cls d) (gName j), fun n xx e t k => x.wp n xx e t fun d t1 => k.nx (e.set j (.dat d)) t1, fun {m B0 B1 H0 H1 Dd k} c {B e σ H t n xx a dd} f r ea hs h =>
  x.ok r ea hs h _ fun v d H2 t2 x2 k2 h2 r2 => c.nx (f.step r x2) ((r.up x2 k2).set r2) h2⟩
noncomputable def HS.ret (x : HE K er i) : HS K er i := ⟨fun a cls d => tRet (x.te a cls d), fun n xx e t k => x.wp n xx e t fun d t1 => k.rt d t1, fun {m B0 B1 H0 H1 Dd k} c {B e σ H t n xx a dd} f r ea hs h =>
  x.ok r ea hs h _ fun v d H2 t2 x2 k2 h2 r2 => c.rt (f.x0.trans x2) k2 h2 (Rp.less f.g0.up _ _ r2)⟩
/-- j = x, and what follows -/
noncomputable def HS.setS (j : Nat) (hj : j ≠ i) (x : HE K er i) (y : HS K er i) : HS K er i := ⟨fun a cls d => tSeq (tAsg (x.te a cls d) (gName j)) (y.ts a cls d), fun n xx e t k => x.wp n xx e t fun d t1 => y.wp n xx (e.set j (.dat d)) t1 k, fun {m B0 B1 H0 H1 Dd k} c {B e σ H t n xx a dd} f r ea hs h =>
  x.ok r ea hs h _ fun v d H2 t2 x2 k2 h2 r2 => y.ok c (f.step r x2) ((r.up x2 k2).set r2) (ea.xt r x2) (by rw [List.getElem?_set_ne hj]; exact hs) h2⟩
theorem Rep.setX {m : Dck} {B0 B : Addr → Prop} {e : En} {σ : L2.St} {H : Hp} {t : Tq} {j : Nat} {v : Option V} (r : Rep K m B0 B e σ H t) : Rep K m B0 B (e.set j .un) (σ.set j v) H t := by
  refine ⟨r.al, r.pb, r.b0, r.ok, by rw [List.length_set, List.length_set]; exact r.ln, fun l => ?_, fun a b p ds es h1 h2 h3 h4 => ?_⟩
  · by_cases z : j = l
    · subst z
      by_cases hl : j < e.length
      · rw [List.getElem?_set_self hl]
        trivial
      · rw [List.getElem?_eq_none (by rw [List.length_set]; omega)]
        trivial
    · rw [List.getElem?_set_ne z, List.getElem?_set_ne z]
      exact r.sl l
  · have na : j ≠ a := fun z => by
      subst z
      by_cases hl : j < e.length
      · rw [List.getElem?_set_self hl] at h1; cases h1
      · rw [List.getElem?_eq_none (by rw [List.length_set]; omega)] at h1; cases h1
    have nb : j ≠ b := fun z => by
      subst z
      by_cases hl : j < e.length
      · rw [List.getElem?_set_self hl] at h2; cases h2
      · rw [List.getElem?_eq_none (by rw [List.length_set]; omega)] at h2; cases h2
    rw [List.getElem?_set_ne na] at h1 h3
    rw [List.getElem?_set_ne nb] at h2 h4
    exact r.ow a b p ds es h1 h2 h3 h4
/-- what stands behind a suite: the error's name is gone -/
noncomputable def kU (i : Nat) (k : Kn) : Kn := { nx := fun e t => k.nx (e.set i .un) t, rt := k.rt, bk := fun e t => k.bk (e.set i .un) t, ct := fun e t => k.ct (e.set i .un) t }
noncomputable def dU (i : Nat) (D : Ends) : Ends := { nx := fun σ H => D.nx (σ.set i none) H, rt := D.rt, bk := fun σ H => D.bk (σ.set i none) H, ct := fun σ H => D.ct (σ.set i none) H }
theorem cn_U {m : Dck} {B0 B1 : Addr → Prop} {H0 H1 : Hp} {Dd : Ends} {k : Kn} (c : Cn K m B0 H0 B1 H1 k Dd) : Cn K m B0 H0 B1 H1 (kU i k) (dU i Dd) :=
  ⟨fun f r h => c.nx f r.setX h, fun f r h => c.bk f r.setX h, fun f r h => c.ct f r.setX h, c.rt⟩
/-- the statement of a try: what is done with the value -/
inductive TyK
  | set (j : Nat)
  | ret
  | drop
noncomputable def TyK.ts : TyK → TE → TS
  | .set j, te => tAsg te (gName j)
  | .ret, te => tRet te
  | .drop, te => tDrop te
noncomputable def TyK.wp : TyK → En → Kn → PK
  | .set j, e, k => fun d t => k.nx (e.set j (.dat d)) t
  | .ret, _, k => k.rt
  | .drop, e, k => fun _ t => k.nx e t
/-- try: .. except C as e: .. -/
noncomputable def AS.tryY (C : Addr) (kd : TyK) (y : AEY K er) (s : HS K er i) : AS K := ⟨fun D σ H => kd.ts (y.te (WE (wAs K (.ref C) i s.ts (fun _ _ _ _ => False) D))) D σ H, fun e t k => i < e.length ∧ y.wp e t (kd.wp e k) fun n x t1 => PySem.W.exmOne K (.ref (er n).C) (.ref C) = some true ∧ s.wp n x (e.set i .un) t1 (kU i k), fun {m B0 B1 H0 H1 Dd k} c {B e σ H t} f r h => by
  obtain ⟨hi, h⟩ := h
  have err : ∀ (n : Nat) (x : PyData) (t' : Tq) (dd : Option Addr) (H' : Hp), (PySem.W.exmOne K (.ref (er n).C) (.ref C) = some true ∧ s.wp n x (e.set i .un) t' (kU i k)) → Xt m.pl H H' → m.ok H' t' → ErAt K B H' (er n) x dd → WE (wAs K (.ref C) i s.ts (fun _ _ _ _ => False) Dd) σ (.ref (er n).C) dd H' := fun n x t' dd H' hx xt k2 ea => by
    refine ⟨true, hx.1, fun _ a na => ?_, fun z => nomatch z⟩
    exact s.ok (cn_U c) (f.step r xt) ((r.up xt k2).setX (v := some (.ref a))) ea (by rw [List.getElem?_set_self (by rw [← r.ln]; exact hi)]) hx.2
  cases kd with
  | set j => exact y.ok r h _ _ (fun v d H2 t2 x2 k2 h2 r2 => c.nx (f.step r x2) ((r.up x2 k2).set r2) h2) err
  | ret => exact y.ok r h _ _ (fun v d H2 t2 x2 k2 h2 r2 => c.rt (f.x0.trans x2) k2 h2 (Rp.less f.g0.up _ _ r2)) err
  | drop => exact y.ok r h _ _ (fun v d H2 t2 x2 k2 h2 r2 => c.nx (f.step r x2) (r.up x2 k2) h2) err⟩
end
end CG
namespace CG
open PySem PySem.Spec PyProof.Rows L2
section
variable {K : PySem.W.Frag} {er : Nat → Er} {i : Nat}
theorem w_h_HE_of (x : AE K) : (HE.of x : HE K er i).wp = fun _ _ e t k => x.wp e t k := rfl
theorem t_h_HE_of (x : AE K) : (HE.of x : HE K er i).te = fun _ _ _ => x.te := rfl
theorem w_h_HE_fld (D : Addr) (fl : Str) : (HE.fld D fl : HE K er i).wp = fun n x e t k => (er n).C = D ∧ (er n).fl = some fl ∧ k x t := rfl
theorem t_h_HE_fld (D : Addr) (fl : Str) : (HE.fld D fl : HE K er i).te = fun a cls d => tFldE fl D a cls d (tVar i) := rfl
theorem w_h_HE_isE (c : V) : (HE.isE c : HE K er i).wp = fun n _ e t k => ∃ cv b, clsOf c = some cv ∧ PySem.W.kitOne K (.ref (er n).C) cv = some b ∧ ExcC K (er n).C ∧ k (.bool b) t := rfl
theorem t_h_HE_isE (c : V) : (HE.isE c : HE K er i).te = fun a cls d => tCB (rIsE K cls d a) (tCons (tVar i) (tCons (tC c) tNil)) := rfl
theorem w_h_HE_isEs (cs : List V) : (HE.isEs cs : HE K er i).wp = fun n _ e t k => ∃ cvs b, cs.map clsOf = cvs.map some ∧ cs.length ≤ 1000 ∧ PySem.W.kitAny K (.ref (er n).C) cvs = some b ∧ ExcC K (er n).C ∧ k (.bool b) t := rfl
theorem t_h_HE_isEs (cs : List V) : (HE.isEs cs : HE K er i).te = fun a cls d => tCB (rIsE K cls d a) (tCons (tVar i) (tCons (tTup (tCs cs)) tNil)) := rfl
theorem w_h_HA_nil : (HA.nil : HA K er i).wp = fun _ _ _ t k => k [] t := rfl
theorem t_h_HA_nil : (HA.nil : HA K er i).ta = fun _ _ _ => tNil := rfl
theorem w_h_HA_cons (x : HE K er i) (y : HA K er i) : (HA.cons x y : HA K er i).wp = fun n xx e t k => x.wp n xx e t fun d t1 => y.wp n xx e t1 fun ds t2 => k (d :: ds) t2 := rfl
theorem t_h_HA_cons (x : HE K er i) (y : HA K er i) : (HA.cons x y : HA K er i).ta = fun a cls d => tCons (x.te a cls d) (y.ta a cls d) := rfl
theorem w_h_HE_lst (x : HA K er i) : (HE.lst x : HE K er i).wp = fun n xx e t k => x.wp n xx e t fun ds t1 => ds.length ≤ 100000 ∧ k (.list ds) t1 := rfl
theorem t_h_HE_lst (x : HA K er i) : (HE.lst x : HE K er i).te = fun a cls d => tLst (x.ta a cls d) := rfl
theorem w_h_HT_of (x : AT K) : (HT.of x : HT K er i).wp = fun _ _ e t k => x.wp e t k := rfl
theorem t_h_HT_of (x : AT K) : (HT.of x : HT K er i).tt = fun _ _ _ => x.tt := rfl
theorem w_h_HT_b (x : HE K er i) : (HT.b x : HT K er i).wp = fun n xx e t k => x.wp n xx e t fun d t1 => unB d fun b => k b t1 := rfl
theorem t_h_HT_b (x : HE K er i) : (HT.b x : HT K er i).tt = fun a cls d => tB (x.te a cls d) := rfl
theorem w_h_HT_and (x y : HT K er i) : (HT.and x y : HT K er i).wp = fun n xx e t k => x.wp n xx e t fun c t1 => if c = true then y.wp n xx e t1 k else k false t1 := rfl
theorem t_h_HT_and (x y : HT K er i) : (HT.and x y : HT K er i).tt = fun a cls d => tAnd (x.tt a cls d) (y.tt a cls d) := rfl
theorem w_h_HS_ret (x : HE K er i) : (HS.ret x : HS K er i).wp = fun n xx e t k => x.wp n xx e t fun d t1 => k.rt d t1 := rfl
theorem t_h_HS_ret (x : HE K er i) : (HS.ret x : HS K er i).ts = fun a cls d => tRet (x.te a cls d) := rfl
theorem w_h_HS_setS (j : Nat) (hj : j ≠ i) (x : HE K er i) (y : HS K er i) : (HS.setS j hj x y : HS K er i).wp = fun n xx e t k => x.wp n xx e t fun d t1 => y.wp n xx (e.set j (.dat d)) t1 k := rfl
theorem t_h_HS_setS (j : Nat) (hj : j ≠ i) (x : HE K er i) (y : HS K er i) : (HS.setS j hj x y : HS K er i).ts = fun a cls d => tSeq (tAsg (x.te a cls d) (gName j)) (y.ts a cls d) := rfl
theorem w_h_AS_tryY (C : Addr) (kd : TyK) (y : AEY K er) (s : HS K er i) : (AS.tryY C kd y s : AS K).wp = fun e t k => i < e.length ∧ y.wp e t (kd.wp e k) fun n x t1 => PySem.W.exmOne K (.ref (er n).C) (.ref C) = some true ∧ s.wp n x (e.set i .un) t1 (kU i k) := rfl
theorem t_h_AS_tryY (C : Addr) (kd : TyK) (y : AEY K er) (s : HS K er i) : (AS.tryY C kd y s : AS K).ts = fun D σ H => kd.ts (y.te (WE (wAs K (.ref C) i s.ts (fun _ _ _ _ => False) D))) D σ H := rfl
theorem w_TyK_set {j : Nat} {e : En} {k : Kn} : (TyK.set j).wp e k = fun d t => k.nx (e.set j (.dat d)) t := rfl
theorem w_TyK_ret {e : En} {k : Kn} : TyK.ret.wp e k = k.rt := rfl
theorem t_TyK_set {j : Nat} {te : TE} : (TyK.set j).ts te = tAsg te (gName j) := rfl
theorem t_TyK_ret {te : TE} : TyK.ret.ts te = tRet te := rfl
theorem w_kU {k : Kn} {i : Nat} : (kU i k).nx = fun e t => k.nx (e.set i .un) t := rfl
theorem w_kUr {k : Kn} {i : Nat} : (kU i k).rt = k.rt := rfl
/-- x.pop() -/
noncomputable def AS.pop (i : Nat) : AS K := ⟨tDrop (tBM0 K "list" rPop (tVar i)), fun e t k => owS e[i]? fun ds => ∃ ds' d, ds = ds' ++ [d] ∧ k.nx (e.set i (.own ds')) t, fun {m B0 B1 H0 H1 Dd k} c {B e σ H t} f r h => by
  obtain ⟨ds, p, vs, e1, e2, b, b0, np, hp, ra, ds', d, rfl, h⟩ := r.own h
  obtain ⟨y, hy, ry, rd⟩ := RpA.dropL ra
  have s3 := r.put e1 e2 b np rd
  exact ⟨.ref p, e2, .inl ⟨rfl, _, SqL.of hp⟩, p, vs, y, rfl, rfl, hp, hy, c.nx (f.put r b b0 np) s3 h⟩⟩
/-- the errors of the package, by number, and their fields -/
noncomputable def erF : Nat → Option Str
  | 2 => some "value" | 3 => some "coins" | 4 => some "source" | 5 => some "value" | 6 => some "value" | 9 => some "value" | 10 => some "value" | 11 => some "value" | 12 => some "bound" | 13 => some "coins" | 14 => some "error" | 16 => some "index" | 17 => some "index" | 18 => some "index"
  | _ => none
noncomputable def erP (A : Nat → Addr) (n : Nat) : Er := ⟨A n, erF n⟩
theorem erP_C {A : Nat → Addr} {n : Nat} : (erP A n).C = A n := rfl
theorem erP_f {A : Nat → Addr} {n : Nat} : (erP A n).fl = erF n := rfl
end
end CG
namespace CG
open PySem PySem.Spec PyProof.Rows L2
section
variable {K : PySem.W.Frag}
variable {er : Nat → Er} {i : Nat}
noncomputable def HE.ifx (c : HT K er i) (a b : HE K er i) : HE K er i := ⟨fun x cls d => tIf (c.tt x cls d) (a.te x cls d) (b.te x cls d), fun n x e t k => c.wp n x e t fun z t1 => if z = true then a.wp n x e t1 k else b.wp n x e t1 k, fun {m B0 B e σ H t k n xx a' dd} r ea hs h Q q =>
  c.ok r ea hs h _ fun z H1 t1 x1 k1 h1 => by
    cases z with
    | true =>
      rw [if_pos rfl] at h1 ⊢
      exact a.ok (r.up x1 k1) (ea.xt r x1) hs h1 _ fun v d H2 t2 x2 k2 h2 r2 => q v d H2 t2 (x1.trans x2) k2 h2 r2
    | false =>
      rw [if_neg (by decide)] at h1 ⊢
      exact b.ok (r.up x1 k1) (ea.xt r x1) hs h1 _ fun v d H2 t2 x2 k2 h2 r2 => q v d H2 t2 (x1.trans x2) k2 h2 r2⟩
theorem w_h_ifx {c : HT K er i} {a b : HE K er i} : (HE.ifx c a b).wp = fun n x e t k => c.wp n x e t fun z t1 => if z = true then a.wp n x e t1 k else b.wp n x e t1 k := rfl
theorem t_h_ifx {c : HT K er i} {a b : HE K er i} : (HE.ifx c a b).te = fun x cls d => tIf (c.tt x cls d) (a.te x cls d) (b.te x cls d) := rfl
end
end CG
namespace CG
open PySem PySem.Spec PyProof.Rows L2
section
variable {K : PySem.W.Frag}
/-- the object is there, then it is gone -/
noncomputable def Tq.bk (t1 : Tq) (j : Nat) (t2 : Tq) : Tq := t2.setO j (t1.o j)
end
end CG
namespace CG
open PySem PySem.Spec PyProof.Rows L2
noncomputable abbrev PXA := List PyData → Tq → PK → KX → Prop
section
variable {K : PySem.W.Frag} {er : Nat → Er} {C : Addr} {nms : List Str}
noncomputable def spAX (K : PySem.W.Frag) (er : Nat → Er) (p : PXA) : Sp := fun vs H Q E => ∃ (m : Dck) (B : Addr → Prop) (t : Tq) (ds : List PyData) (kr : PK) (kx : KX), Al B H ∧ (∀ a, m.pl a → B a) ∧ m.ok H t ∧ RpA K B H ds vs ∧ p ds t kr kx ∧
  (∀ d t' v H', kr d t' → Xt m.pl H H' → m.ok H' t' → Rp K B H' d v → Q v H') ∧ ∀ n x t' dd H', kx n x t' → Xt m.pl H H' → m.ok H' t' → ErAt K B H' (er n) x dd → E (.ref (er n).C) dd H'
/-- arguments that may raise -/
structure AAY (K : PySem.W.Frag) (er : Nat → Er) where
  ta : (L2.St → XK) → TA
  wp : En → Tq → (List PyData → Tq → Prop) → KX → Prop
  ok : ∀ {m : Dck} {B0 B : Addr → Prop} {e : En} {σ : L2.St} {H : Hp} {t : Tq} {k : List PyData → Tq → Prop} {kx : KX}, Rep K m B0 B e σ H t → wp e t k kx → ∀ (Q : List V → Hp → Prop) (E : L2.St → XK), (∀ vs ds H' t', Xt m.pl H H' → m.ok H' t' → k ds t' → RpA K B H' ds vs → Q vs H') →
    (∀ n x t' dd H', kx n x t' → Xt m.pl H H' → m.ok H' t' → ErAt K B H' (er n) x dd → E σ (.ref (er n).C) dd H') → ta E σ H Q
noncomputable def AAY.nil : AAY K er := ⟨fun _ => tNil, fun _ t k _ => k [] t, fun {m B0 B e σ H t k kx} r h Q E q q2 => q _ _ H t (Xt.refl (m.al r.ok)) r.ok h RpA.nil⟩
noncomputable def AAY.cons (x : AEY K er) (y : AAY K er) : AAY K er := ⟨fun E => tCons (x.te E) (y.ta E), fun e t k kx => x.wp e t (fun d t1 => y.wp e t1 (fun ds t2 => k (d :: ds) t2) kx) kx, fun {m B0 B e σ H t k kx} r h Q E q q2 =>
  x.ok r h _ E (fun v d H1 t1 x1 k1 h1 r1 => y.ok (r.up x1 k1) h1 _ E (fun vs ds H2 t2 x2 k2 h2 r2 => q _ _ H2 t2 (x1.trans x2) k2 h2 (.cons (r1.up ((r.up x1 k1).wd x2)) r2))
    (fun n xx t' dd H' hx xt k2 ea => q2 n xx t' dd H' hx (x1.trans xt) k2 ea)) q2⟩
/-- f(..) over data, which may raise -/
noncomputable def AEY.callA (p : PXA) (a : AA K) : AEY K er := ⟨fun E => tCallS (spAX K er p) E a.ta, fun e t k kx => a.wp e t fun ds t1 => p ds t1 k kx, fun {m B0 B e σ H t k kx} r h Q E q q2 =>
  a.ok r h _ fun vs ds H1 t1 x1 k1 h3 r1 => by
    have s := r.up x1 k1
    exact ⟨m, B, t1, ds, k, kx, s.al, s.pb, k1, r1, h3, fun d t' v H' hk x k3 rv => q v d H' t' (x1.trans x) k3 hk rv, fun n x t' dd H' hx xt k3 ea => q2 n x t' dd H' hx (x1.trans xt) k3 ea⟩⟩
theorem w_y_callA {p : PXA} {a : AA K} : (AEY.callA p a : AEY K er).wp = fun e t k kx => a.wp e t fun ds t1 => p ds t1 k kx := rfl
theorem t_y_callA {p : PXA} {a : AA K} : (AEY.callA p a : AEY K er).te = fun E => tCallS (spAX K er p) E a.ta := rfl
/-- a def over data that may raise -/
theorem okAX {P : Program} {w : World} {mg : Str → Option Value} {base : Heap} {x : Str} {st : Stmt} {f : Addr} {fd : FuncData} {N ps : List Str} {k : Nat} (er : Nat → Er) (h : Has K mg x st ps f fd) (S : FnScope N ps (defScope st))
    (b : ∀ {m : Dck} {B0 : Addr → Prop} {H0 : Hp} {W : WX} {kx : KX}, RzZ K m B0 H0 er W kx → AX K m B0 H0) (p : PXA)
    (hb : ∀ (cd : Value) (A : Around) (out : List Env) (s : Shared) (H : Hp) (E : XK) (m : Dck) (B0 : Addr → Prop) (kx : KX) (z : RzZ K m B0 H er (fun cls d _ H => E cls d H) kx), A.guards = some [] → Room k (A.deeper (envOfC x (defScope st) s.heap.objs.size f cd)) → ∃ ts, PSs (cxOf (L2.CX P w) P w K mg base N x (defScope st) f cd A out s H E) (defBody st) ts ∧ ts = (b z).ts)
    (hw : ∀ ds t (kr : PK) (kx : KX), p ds t kr kx → ds.length = ps.length ∧ ∀ (m : Dck) (B0 : Addr → Prop) (H0 : Hp) (W : WX) (z : RzZ K m B0 H0 er W kx), (b z).wp (startE N (ds.map Sl.dat)) t { nx := fun _ t' => kr .none t', rt := kr }) : FnG P w K mg base (L2.CX P w) (k + 1) f fd ps (spAX K er p) := by
  refine okGX h.F S (fun vs H Q E h => ?_) (fun cd A out s H vs Q E hgd hr h => ?_)
  · obtain ⟨m, B, t, ds, kr, kx, al, pb, ok, ra, hp, _⟩ := h
    rw [← ra.length]
    exact (hw ds t _ _ hp).1
  · obtain ⟨m, B, t, ds, kr, kx, al, pb, ok, ra, hp, q1, q2⟩ := h
    have z : RzZ K m B H er (fun cls d _ H => E cls d H) kx := ⟨fun σ H' t' n x dd xt k2 hx ea => q2 n x t' dd H' hx xt k2 ea⟩
    obtain ⟨ts, hts, rfl⟩ := hb cd A out s H E m B kx z hgd hr
    refine ⟨_, hts, ?_⟩
    have r : Rep K m B B (startE N (ds.map Sl.dat)) (L2.start N vs) H t := rep_args al pb ok (by rw [List.length_map]; exact ra.length) (rep_dats ra) (fun x hx es => by
      obtain ⟨d, _, rfl⟩ := List.mem_map.mp hx
      intro z
      cases z)
    exact (b z).ok (cn_def (k := kr) fun v d H' t' x k hk rv => q1 d t' v H' hk x k rv) ⟨⟨fun _ h => h, fun _ h => .inl h⟩, Xt.refl (m.al ok), fun _ h => .inl h, Xt.refl al⟩ r ((hw ds t _ _ hp).2 m B H _ z)
end
end CG
namespace CG
open PySem PySem.Spec PyProof.Rows L2
section
variable {K : PySem.W.Frag} {er : Nat → Er} {i : Nat}
/-- j = [..] -/
noncomputable def HS.setOwn (j : Nat) (x : HA K er i) : HS K er i := ⟨fun a cls d => tAsg (tLst (x.ta a cls d)) (gName j), fun n xx e t k => x.wp n xx e t fun ds t1 => ds.length ≤ 100000 ∧ k.nx (e.set j (.own ds)) t1, fun {m B0 B1 H0 H1 Dd k} c {B e σ H t n xx a dd} f r ea hs h =>
  x.ok r ea hs h _ fun vs ds H2 t2 x2 k2 h2 r2 => ⟨by rw [← r2.length]; exact Nat.le_trans h2.1 (by decide), fun p np => by
    have s := same_new (o := .lst vs) np
    have r3 := r.up x2 k2
    have n0 := none_back r.ok x2 np
    have x3 := x2.trans (m.xs k2 s)
    exact c.nx (f.new r n0 x3) (r.setOwn n0 x3 (m.same k2 s) upd_same ((RpA.grow (gw_new np) _ _ r2).up ⟨fun a o _ e => s a o e, al_new r3.al⟩)) h2.2⟩⟩
/-- the error's dict is no list -/
theorem ErAt.put {B : Addr → Prop} {H : Hp} {p : Addr} {vs ws : List V} {e : Er} {x : PyData} {dd : Option Addr} (h : ErAt K B H e x dd) (hp : H p = some (.lst vs)) (y : Xt B H (upd H p (.lst ws))) : ErAt K B (upd H p (.lst ws)) e x dd := by
  unfold ErAt at h ⊢
  split at h
  · exact h
  · obtain ⟨d, v, e1, e2, rv⟩ := h
    have ne : d ≠ p := fun z => by rw [z, hp] at e2; cases e2
    exact ⟨d, v, e1, by rw [upd_ne ne]; exact e2, rv.up y⟩
end
end CG
namespace PySem
end PySem
namespace L2
open PySem PySem.Spec PyProof.Rows
end L2
namespace PySem
end PySem
namespace L2
open PySem PySem.Spec PyProof.Rows
end L2
namespace PySem
end PySem
namespace L2
open PySem PySem.Spec PyProof.Rows
end L2
namespace PySem
end PySem
namespace L2
open PySem PySem.Spec PyProof.Rows
end L2
namespace PySem
end PySem
namespace L2
open PySem PySem.Spec PyProof.Rows
end L2
namespace CG
open PySem PySem.Spec PyProof.Rows L2
theorem FlyingZ.kept {base h h' : Heap} {l : List Env} {e : Addr} {Z : Obj → Prop} (x : HandSPX.FlyingZ base l e Z h) (k : ∀ b o, h.get? b = some o → h'.get? b = some o) : HandSPX.FlyingZ base l e Z h' := by
  obtain ⟨x1, x2, x3, oe, vs, T, oT, ts, he, hz, hd, h1, h2, h3, h4, h5, h6⟩ := x
  exact ⟨fun b o q => k _ _ (x1 b o q), x2, Heap.FunFrames.of_keeps (fun b o q _ => ⟨o, k _ _ q, rfl⟩) x3, oe, vs, T, oT, ts, k _ _ he, hz, hd, h1, h2, h3, k _ _ h4, h5, h6⟩
section
variable {K : PySem.W.Frag} {er : Nat → Er}
noncomputable abbrev KE := Nat → PyData → En → Tq → Prop
/-- what is wanted of the errors, told from the frame in which they are raised -/
structure CE (K : PySem.W.Frag) (er : Nat → Er) (m : Dck) (B0 : Addr → Prop) (H0 : Hp) (B1 : Addr → Prop) (H1 : Hp) (kx : KE) (W : WX) : Prop where
  tk : ∀ {B e σ H t n x dd}, Fr m B0 H0 B1 H1 B H → Rep K m B0 B e σ H t → ErAt K B H (er n) x dd → kx n x e t → W (.ref (er n).C) dd σ H
theorem CE.comp {m : Dck} {B0 B1 B2 : Addr → Prop} {H0 H1 H2 : Hp} {kx : KE} {W : WX} (c : CE K er m B0 H0 B1 H1 kx W) (f : Fr m B0 H0 B1 H1 B2 H2) : CE K er m B0 H0 B2 H2 kx W := ⟨fun f5 r ea h => c.tk (f.comp f5) r ea h⟩
/-- a suite that may raise -/
structure SY (K : PySem.W.Frag) (er : Nat → Er) where
  ts : WX → TS
  wp : En → Tq → Kn → KE → Prop
  ok : ∀ {m : Dck} {B0 B1 : Addr → Prop} {H0 H1 : Hp} {Dd : Ends} {k : Kn} {kx : KE} {W : WX}, Cn K m B0 H0 B1 H1 k Dd → CE K er m B0 H0 B1 H1 kx W → ∀ {B : Addr → Prop} {e : En} {σ : L2.St} {H : Hp} {t : Tq}, Fr m B0 H0 B1 H1 B H → Rep K m B0 B e σ H t → wp e t k kx → ts W Dd σ H
noncomputable def SY.of (s : AS K) : SY K er := ⟨fun _ => s.ts, fun e t k _ => s.wp e t k, fun {m B0 B1 H0 H1 Dd k kx W} c _ {B e σ H t} f r h => s.ok c f r h⟩
noncomputable def SY.seq (a b : SY K er) : SY K er := ⟨fun W => tSeq (a.ts W) (b.ts W), fun e t k kx => a.wp e t { k with nx := fun e' t' => b.wp e' t' k kx } kx, fun {m B0 B1 H0 H1 Dd k kx W} c ce {B e σ H t} f r h =>
  a.ok (Dd := { Dd with nx := b.ts W Dd }) (k := { k with nx := fun e' t' => b.wp e' t' k kx }) ⟨fun f' r' h' => b.ok c ce f' r' h', c.bk, c.ct, c.rt⟩ ce f r h⟩
/-- [x, ..] where the items may raise -/
noncomputable def AEY.lst (x : AAY K er) : AEY K er := ⟨fun E => tLst (x.ta E), fun e t k kx => x.wp e t (fun ds t1 => ds.length ≤ 100000 ∧ k (.list ds) t1) kx, fun {m B0 B e σ H t k kx} r h Q E q q2 =>
  x.ok r h _ E (fun vs ds H1 t1 x1 k1 h1 r1 => ⟨by rw [← r1.length]; exact Nat.le_trans h1.1 (by decide), fun p np =>
    q _ _ _ t1 (x1.trans (m.xs k1 (same_new np))) (m.same k1 (same_new np)) h1.2 (rp_lst.mpr ⟨p, vs, rfl, (r.up x1 k1).al.new np, upd_same, r1.up (Xt.of (r.up x1 k1).al (same_new np))⟩)⟩) q2⟩
end
end CG
namespace PySem
end PySem
namespace L2
open PySem PySem.Spec PyProof.Rows
end L2
namespace PySem
end PySem
namespace L2
open PySem PySem.Spec PyProof.Rows
end L2
namespace PySem
end PySem
namespace L2
open PySem PySem.Spec PyProof.Rows
end L2
namespace CG
open PySem PySem.Spec PyProof.Rows L2
section
variable {K : PySem.W.Frag} {er : Nat → Er} {i : Nat}
noncomputable def HE.or (x y : HE K er i) : HE K er i := ⟨fun a cls d => tOrV (x.te a cls d) (y.te a cls d), fun n xx e t k => x.wp n xx e t fun d t1 => unB d fun c => if c = true then k (.bool true) t1 else y.wp n xx e t1 k, fun {m B0 B e σ H t k n xx a dd} r ea hs h Q q =>
  x.ok r ea hs h _ fun v d H1 t1 x1 k1 h1 r1 => by
    obtain ⟨c, rfl, h3⟩ := unB_of h1
    clear h1
    refine ⟨c, rp_bl.mp r1, ?_⟩
    cases c with
    | true =>
      rw [if_pos rfl] at h3 ⊢
      exact q _ _ H1 t1 x1 k1 h3 (rp_bl.mpr rfl)
    | false =>
      rw [if_neg (by decide)] at h3 ⊢
      exact y.ok (r.up x1 k1) (ea.xt r x1) hs h3 _ fun v d H2 t2 x2 k2 h2 r2 => q v d H2 t2 (x1.trans x2) k2 h2 r2⟩
/-- x + y, both lists -/
noncomputable def unL2D : PyData → PyData → (List PyData → Prop) → Prop
  | .list a, .list b, k => a.length + b.length ≤ 100000 ∧ k (a ++ b)
  | _, _, _ => False
noncomputable def AF.add (a b : AE K) : AF K := ⟨tOp (rAddU K) a.te b.te, fun e t k => a.wp e t fun x t1 => b.wp e t1 fun y t2 => unL2D x y fun z => k z t2, fun {m B0 B e σ H t k} r h Q q =>
  a.ok r h _ fun v x H1 t1 x1 k1 h1 r1 => b.ok (r.up x1 k1) h1 _ fun w y H2 t2 x2 k2 h2 r2 => by
    have s1 := r.up x1 k1
    have s2 := s1.up x2 k2
    have q1 := r1.up (s1.wd x2)
    unfold unL2D at h2
    split at h2
    · obtain ⟨hl, h2⟩ := h2
      obtain ⟨p, vs, rfl, _, hp, ra⟩ := rp_lst.mp q1
      obtain ⟨p2, vs2, rfl, _, hp2, rb⟩ := rp_lst.mp r2
      refine .inr (.inr ⟨p, p2, vs, vs2, rfl, rfl, hp, hp2, by rw [← ra.length, ← rb.length]; exact Nat.le_trans hl (by decide), fun l nl => ?_⟩)
      have s := same_new (o := .lst (vs ++ vs2)) nl
      exact q l _ _ _ t2 (none_back r.ok (x1.trans x2) nl) (x1.trans (x2.trans (m.xs k2 s))) (m.same k2 s) h2 upd_same ((RpA.grow (gw_new nl) _ _ (RpA.append ra rb)).up ⟨fun a o _ e => s a o e, al_new s2.al⟩)
    · exact h2.elim⟩
end
end CG
namespace PySem
namespace LowX_TooMany
open PySem.W PySem.Calls PyProof.Rows PySem.HandSPX
noncomputable def iA (p1 p2 : Pos) : Arguments := { posonlyargs := [], args := [{ arg := "self", annotation := none, pos := p1 }, { arg := "bound", annotation := none, pos := p2 }], vararg := none, kwonlyargs := [], kw_defaults := [], kwarg := none, defaults := [] }
noncomputable def iB (q1 q2 q3 q4 : Pos) : List Stmt := [.Assign [.Attribute (.Name "self" q1) "bound" q2] (.Name "bound" q3) q4]
noncomputable def iS : Scope := { kind := .function, names := [(PySem.Str.ofString "self", .local), (PySem.Str.ofString "bound", .local)], isGenerator := false, isCoroutine := false, more := [] }
/-- what the written part says of Low, at C, and of its __init__, at fI -/
structure LowTxt_TooMany (K : Frag) (mg : Str → Option Value) (C fI : Addr) : Prop where
  gC : mg "TooMany" = some (.ref C)
  cls : ∃ nm q N bs bm sn sub ab col dd k0 k1 k2 k3 k5, K.lookup C = some (excClassObj nm q C N bs bm true sn sub ab col dd k0 k1 k2 k3 k5 "ValueError.__new__") ∧ refsVE bm = true
  sa : findIn K (.ref C) "__setattr__" = some (some (.builtin "object.__setattr__"))
  ga : findIn K (.ref C) "__getattribute__" = some (some (.builtin "BaseException.__getattribute__"))
  gg : findIn K (.ref C) "__getattr__" = some none
  noN : findIn K (.ref C) "bound" = some none
  iC : findIn K (.ref C) "__init__" = some (some (.ref fI))
  tC : typeIn K (.ref fI) = some (.type "function")
  kC : keepIn K (.ref C) = true
  exC : subIn K (.ref C) (.type "BaseException") = some true
  tyC : typeIn K (.ref C) = some (.type "type")
  hdC : hasDictIn K C = true
  te : exmOne K (.ref C) (.ref C) = some true
  fn : ∃ (oc : Value) (od : Option Addr) (doc pm : Value) (an : Option Addr) (cdv ct : Value) (osl : Array (Option Value)) (p1 p2 q1 q2 q3 q4 : Pos),
    K.lookup fI = some ⟨oc, od, .func (fnOf "__init__" "TooMany.__init__" (iA p1 p2) (iB q1 q2 q3 q4) iS .none .none doc pm an cdv ct), osl⟩ ∧ codeIn K cdv "TooMany.__init__" = true
theorem one_size (v : Value) : [v].length ≤ sizeLine := by
  rw [sizeLine_eq]
  exact (by decide : 1 ≤ 16777216)
theorem ldC {M : Model} {s : Shared} {name : Str} {scope : Scope} {L a : Addr} {cd : Value} {m : Str → Option Value} {x : Str} {pos : Pos} {v : Value} {Q : Value → Shared → Prop} {A : Around} {E : Value → Shared → Prop} (hn : s.heap.Ns L m) (hv : m x = some v) (h : Q v s)
    (hk : scope.kind = .function := by rfl) (hl : (envOfC name scope L a cd).kindOf x = some .local := by rfl) (hd : (x == ("__debug__" : Str)) = false := by decide) :
    wpAny M A (eval (.Name x pos) (envOfC name scope L a cd)) Q E s := wpAny_Name (wpAny_loadName_local hk hl hn hv h) hd
/-- what __init__ leaves of a fresh exception at x -/
structure InitEnd (h h' : Heap) (x C dx t1 : Addr) (v : Value) : Prop where
  keep : ∀ b o, b ≠ x → h.get? b = some o → h'.get? b = some o
  obj : h'.get? x = some { cls := .ref C, dict := some dx, data := .fields #[.ref t1, .none, .none, .none, .bool false, .none] }
  dbig : h.objs.size ≤ dx
  dne : dx ≠ x
  ns : h'.Ns1 dx (fun y => if y = "bound" then some v else none)
/-- a made Low -/
structure OwnMade (h h' : Heap) (e C d : Addr) (v : Value) : Prop where
  keep : ∀ b o, h.get? b = some o → h'.get? b = some o
  new : h.objs.size ≤ e
  obj : ∃ oe vs, h'.get? e = some oe ∧ oe.cls = .ref C ∧ oe.dict = some d ∧ oe.data = .fields vs ∧ vs[1]? = some .none
  dbig : h.objs.size ≤ d
  dne : d ≠ e
  ns : h'.Ns1 d (fun y => if y = "bound" then some v else none)
section
variable {prog : Program} {w : World} {A : Around} {E : Value → Shared → Prop} {R : Result → Shared → Prop} {s : Shared} {K : Frag} {mg : Str → Option Value} {C fI : Addr}
theorem low_init (T : LowTxt_TooMany K mg C fI) {x t0 : Addr} {v : Value} (X : K.In s.heap) (hlim : s.heap.NoLimit) (hx : s.heap.get? x = some (excO C t0)) (hnx : K.lookup x = none) (hroom : A.depth < recursionLimit)
    (hq : ∀ h' tk dx, InitEnd s.heap h' x C dx t0 v → R (.ok (.ret .none)) { s with heap := h', toks := tk }) :
    codeAny (model prog w) A (.call (.ref fI) ⟨[.ref x, v], []⟩) R s := by
  obtain ⟨oc, od, doc, pm, an, cdv, ct, osl, p1, p2, q1, q2, q3, q4, ho, hcd⟩ := T.fn
  obtain ⟨nm, q, N, bs, bm, sn, sub, ab, col, dd, k0, k1, k2, k3, k5, hC, hbm⟩ := T.cls
  have hcl : clsIn K C = some { name := nm, bases := bs, mro := .ref C :: bm, ns := N, qualname := q, hasDict := true, slotNames := sn, subclasses := sub, abstract := ab, collection := col, hasDel := false } := by unfold clsIn; rw [hC] <;> rfl
  refine Att.call_fn (binds := [("self", .ref x), ("bound", v)]) X hlim ho hcd hroom (BindsTo.of_eq (by first | rfl | with_unfolding_all rfl)) (by first | rfl | decide | with_unfolding_all rfl) (fun s₁ IC => ?_) rfl rfl rfl
  obtain ⟨h₁, tk₁, rfl⟩ := IC.toInCall.same
  have k : ∀ b o, s.heap.get? b = some o → h₁.get? b = some o := IC.toInCall.keep
  have hn := IC.toInCall.ns
  have hxL : s.heap.objs.size ≠ x := Nat.ne_of_gt (Heap.lt_size hx)
  have X₁ : K.In h₁ := X.keeps k
  have hx₁ := k _ _ hx
  -- self.by = by
  show wpAny _ _ (execs _ _) _ _ _
  refine wpAny_execs_cons (plainObj_wpAny_Assign_Attribute ?_)
  refine ldC (v := v) hn (by first | rfl | with_unfolding_all rfl | kernel_rfl) (ldC (v := .ref x) hn (by first | rfl | with_unfolding_all rfl | kernel_rfl) ?_)
  refine set_plain X₁ (ox := excO C t0) (od := none) ⟨hx₁, rfl, rfl, trivial⟩ T.sa ?_
  refine exc_osa X₁ hx₁ hcl (show refsVE (.ref C :: bm) = true from hbm) rfl T.noN (fun h₃ tk₃ dx k₃ dn dne hx₃ hn₃ => ?_)
  show wpAny _ _ (execs _ _) _ _ _
  have z : s.heap.objs.size < h₁.objs.size := hn.lt
  exact wpAny_execs_nil (hq h₃ tk₃ dx ⟨fun b o hb e => k₃ b o hb (k b o e), hx₃, Nat.le_of_lt (Nat.lt_of_lt_of_le z dn), dne, hn₃⟩)
theorem low_made (T : LowTxt_TooMany K mg C fI) {v : Value} (X : K.In s.heap) (hlim : s.heap.NoLimit) (hroom : A.depth + 1 < recursionLimit)
    (hq : ∀ h' tk e d, OwnMade s.heap h' e C d v → R (.ok (.ret (.ref e))) { s with heap := h', toks := tk }) :
    codeAny (model prog w) A (.call (.ref C) ⟨[v], []⟩) R s := by
  obtain ⟨nm, q, N, bs, bm, sn, sub, ab, col, dd, k0, k1, k2, k3, k5, hC, hbm⟩ := T.cls
  obtain ⟨hp, g, dr, tk, os⟩ := s
  have k : ∀ b o, hp.get? b = some o → ((hp.push (kdv_tup [v])).push (excO C hp.objs.size)).get? b = some o := fun b o e => Heap.get?_push_of_some _ (Heap.get?_push_of_some _ e)
  have hget : ((hp.push (kdv_tup [v])).push (excO C hp.objs.size)).get? (hp.objs.size + 1) = some (excO C hp.objs.size) := by heap_get
  have hnx : K.lookup (hp.objs.size + 1) = none := by
    cases e : K.lookup (hp.objs.size + 1) with
    | none => rfl
    | some o =>
      have z : hp.get? (hp.objs.size + 1) = some o := X _ _ e
      exact absurd (Nat.lt_of_succ_lt (Heap.lt_size z)) (Nat.lt_irrefl _)
  refine call_own F.excBase_ValueError (fun X => refsVE_contains X bm hbm) (X _ _ hC) (looks_findIn X T.iC) (fun self => bind_fn X self T.tC) (one_size v) ?_
  refine low_init (s := ⟨(hp.push (kdv_tup [v])).push (excO C hp.objs.size), g, dr, tk, os⟩) T (X.keeps k) (hlim.keeps k) hget hnx ?_ fun h' tk' dx ⟨k', hx, dn, dne, hns⟩ => ?_
  · show A.depth + 1 < recursionLimit
    exact hroom
  · have old : ∀ b o, hp.get? b = some o → h'.get? b = some o := fun b o e => k' b o (Nat.ne_of_lt (Nat.lt_succ_of_lt (Heap.lt_size e))) (k b o e)
    have z : hp.objs.size + 1 + 1 ≤ dx := by
      first
        | (simpa only [Heap.size_push] using dn)
        | exact dn
        | (have q := dn; rw [Heap.size_push, Heap.size_push] at q; exact q)
    exact ⟨rfl, hq h' tk' (hp.objs.size + 1) dx ⟨old, Nat.le_succ _, ⟨_, _, hx, rfl, rfl, rfl, rfl⟩, Nat.le_trans (Nat.le_trans (Nat.le_succ _) (Nat.le_succ _)) z, dne, hns⟩⟩
end
end LowX_TooMany
end PySem
namespace L2
open PySem PySem.Spec PyProof.Rows
theorem relO_low_TooMany {v : V} {v' : Value} (r : RelV v v') (f : Str) : RelO (List.lookup f [(("bound" : Str), v)]) (if f = "bound" then some v' else none) := by
  by_cases hw : f = "bound"
  · subst hw
    rw [if_pos rfl]
    have q : List.lookup ("bound" : Str) [(("bound" : Str), v)] = some v := by simp [List.lookup]
    rw [q]
    exact r
  · rw [if_neg hw]
    have qw : (f == ("bound" : Str)) = false := by simpa using hw
    have q2 : List.lookup f [(("bound" : Str), v)] = none := by simp [List.lookup, qw]
    rw [q2]
    trivial
section
variable {X : Cx} {C fI : Addr}
/-- Low(e) -/
noncomputable def tMkLow_TooMany (C : Addr) (ta : TA) : St → Hp → XK → Prop := fun σ H Q => ta σ H fun vs H1 => ∃ v, vs = [v] ∧ ∀ d, H1 d = none → Q (.ref C) (some d) (upd H1 d (.xd [(("bound" : Str), v)]))
theorem pmk_low_TooMany {a : Expr} {ta : TA} {p pos : Pos} {k : Nat} (T : PySem.LowX_TooMany.LowTxt_TooMany X.K X.mg C fI) (hr : Room k X.A) (ha : PA X [a] ta) (hg : Gl X "TooMany" := by rfl)
    (he : starEach (a :: []) X.env = (false, eval a X.env) :: starEach [] X.env := by rfl) (hpl : (backTo pos (starEach [] X.env)).any (·.1) = false := by rfl) :
    PMk X (.Call (.Name "TooMany" p) [a] [] pos) (tMkLow_TooMany C ta) := by
  intro pins s σ H Q I h
  refine wpAny_Call_Name_kw (ld_glob I hg T.gC ?_)
  refine PySem.W.callWith_K (h₀ := X.base) I.ok.mod.kin T.kC (thn (ha.run pos pins s σ H _ I h) fun us s1 hh => ?_) he hpl
  obtain ⟨vs, H1, I1, r1, v, ev, q1⟩ := hh
  subst ev
  refine ⟨I1.kIn, ?_⟩
  cases r1 with
  | cons rv rn =>
    rename_i v' us'
    cases rn
    show wpAny _ _ (call (.ref C) [v']) _ _ _
    have hlim := I1.nolimit
    obtain ⟨hp, g, dr, tk, os⟩ := s1
    refine wpAny_call (PySem.LowX_TooMany.low_made T I1.kIn hlim (by have := hr.dp; omega) fun h' tk' e d M => ?_)
    show MkP X pins σ Q (.ref e) ⟨h', g, dr, tk', os⟩
    obtain ⟨oe, fv, hoe, hc, hd, hdat, h1⟩ := M.obj
    have hns := M.ns
    obtain ⟨G', g1, g2⟩ := restrict h' fun b => decide (b ≠ e)
    have gk : ∀ b, b ≠ e → G'.get? b = h'.get? b := fun b hb => g1 b (decide_eq_true hb)
    have ge : G'.get? e = none := g2 e (by simp)
    have old : ∀ b o, hp.get? b = some o → G'.get? b = some o := fun b o q => (gk b (Nat.ne_of_lt (Nat.lt_of_lt_of_le (Heap.lt_size q) M.new))).trans (M.keep b o q)
    have ob : ObjOk X.prog X.w (upd H1 d (.xd [(("bound" : Str), v)])) G' d (.xd [(("bound" : Str), v)]) :=
      ⟨_, hns.at (fun o q => (gk d M.dne).trans q), fun f => relO_low_TooMany rv f⟩
    have J : Inv X pins σ (upd H1 d (.xd [(("bound" : Str), v)])) ⟨G', g, dr, tk', os⟩ := I1.laid (t' := tk') old M.dbig ob
    refine ⟨e, oe, fv, ⟨G', g, dr, tk', os⟩, _, .ref C, some d, rfl, J, fun b o q => ?_, ge, hoe, ⟨hc, hd⟩, hdat, h1, ?_, rfl, I1.bare, raises_own T.exC T.tyC, q1 d (I1.hok.fresh M.dbig)⟩
    · by_cases hb : b = e
      · have q' : G'.get? b = some o := q
        rw [hb, ge] at q'; cases q'
      · exact (gk b hb).symm.trans q
    · rw [upd_ne (Ne.symm M.dne)]
      exact I1.hok.fresh M.new
/-- raise Low(e) -/
noncomputable def tRaiseLow_TooMany (C : Addr) (W : WX) (ta : TA) : TS := fun _ σ H => tMkLow_TooMany C ta σ H fun cls d H' => W cls d σ H'
theorem ps_raiseLow_TooMany {a : Expr} {ta : TA} {W : WX} {p pos pos2 : Pos} {k : Nat} (hc : X.calm = true) (T : PySem.LowX_TooMany.LowTxt_TooMany X.K X.mg C fI) (hr : Room k X.A) (tk : Takes X W) (ha : PA X [a] ta) (hg : Gl X "TooMany" := by rfl)
    (he : starEach (a :: []) X.env = (false, eval a X.env) :: starEach [] X.env := by rfl) (hpl : (backTo pos (starEach [] X.env)).any (·.1) = false := by rfl) :
    PS X (.Raise (some (.Call (.Name "TooMany" p) [a] [] pos)) none pos2) (tRaiseLow_TooMany C W ta) := ps_raise hc tk (pmk_low_TooMany T hr ha hg he hpl)
/-- low.by, low the exception that the suite holds (at a; its class cls, its dict d) -/
noncomputable def tByLow_TooMany (C : Addr) (a : Addr) (cls : Value) (d : Option Addr) (te : TE) : TE := fun σ H Q => te σ H fun x H1 => x = .ref a ∧ cls = .ref C ∧ ∃ (dd : Addr) (v : V), d = some dd ∧ H1 dd = some (.xd [(("bound" : Str), v)]) ∧ Q v H1
theorem pe_byLow_TooMany {a : Addr} {oe : Obj} {cls : Value} {d : Option Addr} {pn : List (Addr × Obj)} {e : Expr} {te : TE} {pos : Pos} (T : PySem.LowX_TooMany.LowTxt_TooMany X.K X.mg C fI) (hz : Zc cls d oe) (hf : ∃ vs, oe.data = .fields vs) (he : PE (X.suite a ((a, oe) :: pn)) e te)
    (hb : attributeBase e "bound" X.env (eval e X.env) = eval e X.env := by rfl) :
    PE (X.suite a ((a, oe) :: pn)) (.Attribute e "bound" pos) (tByLow_TooMany C a cls d te) := by
  refine ⟨fun pins s σ H Q I h => ?_⟩
  refine attr_of hb (thn (he.run pins s σ H _ I h) fun u s1 hh => ?_)
  obtain ⟨x, H1, I1, rx, ex, ec, dd, v, ed, ea, q⟩ := hh
  subst ex
  obtain rfl : u = Value.ref a := rx
  subst ec
  subst ed
  obtain ⟨ha, _⟩ := I1.pin (a, oe) (List.mem_append_left _ List.mem_cons_self)
  obtain ⟨vs, hd⟩ := hf
  have hx : ObjOk X.prog X.w H1 s1.heap dd (.xd [(("bound" : Str), v)]) := I1.hok dd _ ea
  obtain ⟨mA, hns, hr⟩ := hx
  obtain ⟨od, ho, hl⟩ := lookIn_ns hns
  have l : List.lookup ("bound" : Str) [(("bound" : Str), v)] = some v := by simp [List.lookup]
  obtain ⟨u, hu, ru⟩ := RelO.some_of (v := v) (o := mA "bound") (by rw [← l]; exact hr "bound")
  have J : PySem.W.InstAt s1.heap a oe C (some od) := ⟨ha, hz.1, by unfold PySem.W.notCls; rw [hd] <;> rfl, by rw [hz.2]; exact ho⟩
  exact HandSPX.exc_get I1.kIn J T.ga T.gg T.exC (PySem.W.findObj_own T.hdC T.noN rfl (by rw [hl, hu])) (handed_of ru) ⟨v, H1, I1.tok _, ru, q⟩
end
end L2
namespace CG
open PySem PySem.Spec PyProof.Rows L2
noncomputable def gS : Nat → Nat
  | 0 => 0
  | n + 1 => 5 * gS n + 1
theorem gS_add (a : Nat) : ∀ b, gS (a + b) = 5 ^ b * gS a + gS b
  | 0 => by simp [gS]
  | b + 1 => by
    show 5 * gS (a + b) + 1 = 5 ^ (b + 1) * gS a + (5 * gS b + 1)
    rw [gS_add a b, Nat.pow_succ, Nat.mul_add, Nat.mul_comm (5 ^ b) 5, Nat.mul_assoc, Nat.add_assoc]
theorem gS_pow : ∀ n, 4 * gS n + 1 = 5 ^ n
  | 0 => rfl
  | n + 1 => by
    show 4 * (5 * gS n + 1) + 1 = 5 ^ (n + 1)
    rw [Nat.pow_succ, ← gS_pow n]
    omega
theorem odd_mul (a b : Nat) : (2 * a + 1) * (2 * b + 1) = 2 * (2 * a * b + a + b) + 1 := by
  rw [Nat.add_mul, Nat.mul_add, Nat.mul_add, Nat.mul_add, Nat.one_mul]
  have e : 2 * a * (2 * b) = 2 * (2 * a * b) := Nat.mul_left_comm (2 * a) 2 b
  omega
theorem gS_two : ∀ k, ∃ c, gS (2 ^ k) = 2 ^ k * (2 * c + 1)
  | 0 => ⟨0, rfl⟩
  | k + 1 => by
    obtain ⟨c, hc⟩ := gS_two k
    refine ⟨2 * c * gS (2 ^ k) + c + gS (2 ^ k), ?_⟩
    rw [show 2 ^ (k + 1) = 2 ^ k + 2 ^ k by rw [Nat.pow_succ]; omega, gS_add, ← gS_pow (2 ^ k)]
    have e1 : (4 * gS (2 ^ k) + 1) * gS (2 ^ k) + gS (2 ^ k) = 2 * (gS (2 ^ k) * (2 * gS (2 ^ k) + 1)) := by
      rw [Nat.add_mul, Nat.one_mul, Nat.mul_add, Nat.mul_add, Nat.mul_one, Nat.mul_assoc, Nat.mul_left_comm (gS (2 ^ k)) 2]
      omega
    have e2 : gS (2 ^ k) * (2 * gS (2 ^ k) + 1) = 2 ^ k * ((2 * c + 1) * (2 * gS (2 ^ k) + 1)) := by
      conv => lhs; lhs; rw [hc]
      rw [Nat.mul_assoc]
    rw [e1, e2, odd_mul]
    generalize 2 * (2 * c * gS (2 ^ k) + c + gS (2 ^ k)) + 1 = y
    rw [Nat.add_mul]
    omega
theorem gS_all : ∀ k j, j < 2 ^ k → ∃ n, n < 2 ^ k ∧ gS n % 2 ^ k = j
  | 0, j, h => ⟨0, by decide, by rw [Nat.pow_zero] at h ⊢; simp [gS]; omega⟩
  | k + 1, j, h => by
    have hp : 0 < 2 ^ k := Nat.pow_pos (by decide)
    obtain ⟨c, hc⟩ := gS_two k
    rw [show 2 ^ (k + 1) = 2 * 2 ^ k by rw [Nat.pow_succ, Nat.mul_comm]] at h ⊢
    obtain ⟨n, hn, e⟩ := gS_all k (j % 2 ^ k) (Nat.mod_lt _ hp)
    have d5 : 5 ^ n = 2 * (2 * gS n) + 1 := by rw [← gS_pow n]; omega
    have g2 : gS (2 ^ k + n) = gS n + 2 ^ k + 2 * 2 ^ k * (2 * (2 * gS n) * c + 2 * gS n + c) := by
      rw [gS_add, hc, d5, Nat.mul_left_comm, odd_mul, Nat.mul_add, Nat.mul_one]
      rw [show 2 ^ k * (2 * (2 * (2 * gS n) * c + 2 * gS n + c)) = 2 * 2 ^ k * (2 * (2 * gS n) * c + 2 * gS n + c) by rw [← Nat.mul_assoc, Nat.mul_comm (2 ^ k) 2]]
      omega
    generalize 2 ^ k = p at *
    have q1 : gS n % (2 * p) % p = j % p := by rw [Nat.mod_mul_left_mod, e]
    have q2 : gS n % (2 * p) < 2 * p := Nat.mod_lt _ (by omega)
    by_cases z : gS n % (2 * p) = j
    · exact ⟨n, by omega, z⟩
    · refine ⟨p + n, by omega, ?_⟩
      rw [g2, Nat.add_mul_mod_self_left, Nat.add_mod, Nat.mod_eq_of_lt (show p < 2 * p by omega)]
      generalize gS n % (2 * p) = r at q1 q2 z ⊢
      have r1 := Nat.div_add_mod r p
      have j1 := Nat.div_add_mod j p
      have r2 : r / p < 2 := Nat.div_lt_of_lt_mul (by rw [Nat.mul_comm]; exact q2)
      have j2 : j / p < 2 := Nat.div_lt_of_lt_mul (by rw [Nat.mul_comm]; exact h)
      have mlt := Nat.mod_lt r hp
      have two : ∀ x : Nat, x < 2 → x = 0 ∨ x = 1 := fun x hx => by omega
      rcases two _ r2 with a | a <;> rcases two _ j2 with b | b <;> rw [a] at r1 <;> rw [b] at j1 <;> simp only [Nat.mul_zero, Nat.mul_one] at r1 j1
      · omega
      · rw [Nat.mod_eq_of_lt (by omega)]
        omega
      · rw [show r + p = j + 2 * p by omega, Nat.add_mod_right, Nat.mod_eq_of_lt h]
      · omega
/-- the masks up to 9,500 entries -/
noncomputable def Mk6 (m : Nat) : Prop := m = 7 ∨ m = 31 ∨ m = 127 ∨ m = 511 ∨ m = 2047 ∨ m = 8191 ∨ m = 32767
theorem Mk6.pow {m : Nat} (h : Mk6 m) : ∃ k, m + 1 = 2 ^ k := by
  rcases h with rfl | rfl | rfl | rfl | rfl | rfl | rfl
  · exact ⟨3, rfl⟩
  · exact ⟨5, rfl⟩
  · exact ⟨7, rfl⟩
  · exact ⟨9, rfl⟩
  · exact ⟨11, rfl⟩
  · exact ⟨13, rfl⟩
  · exact ⟨15, rfl⟩
theorem Mk6.le {m : Nat} (h : Mk6 m) : m ≤ 32767 := by rcases h with rfl | rfl | rfl | rfl | rfl | rfl | rfl <;> decide
theorem lcgN_gS (m : Nat) : ∀ n, lcgN m n = gS n % (m + 1)
  | 0 => (Nat.zero_mod _).symm
  | n + 1 => by
    show (lcgN m n * 5 + 1) % (m + 1) = (5 * gS n + 1) % (m + 1)
    rw [lcgN_gS m n, Nat.mul_comm 5, Nat.add_mod, Nat.mul_mod, Nat.mod_mod, ← Nat.mul_mod, ← Nat.add_mod]
/-- each place is met from each other one -/
theorem round_all {m i j : Nat} (hm : Mk6 m) (hi : i ≤ m) (hj : j ≤ m) : ∃ n, n ≤ m ∧ lcgI m i n = j := by
  obtain ⟨k, hk⟩ := hm.pow
  obtain ⟨x, x1, x2⟩ := gS_all k i (by omega)
  obtain ⟨y, y1, y2⟩ := gS_all k j (by omega)
  rw [← hk] at x1 x2 y1 y2
  have ex : lcgN m x = i := by rw [lcgN_gS, x2]
  rw [← ex]
  by_cases c : x ≤ y
  · exact ⟨y - x, by omega, by rw [lcgN_add, lcgN_gS, show x + (y - x) = y by omega, y2]⟩
  · refine ⟨m + 1 + y - x, by omega, ?_⟩
    obtain ⟨c, hc⟩ := gS_two k
    rw [lcgN_add, lcgN_gS, show x + (m + 1 + y - x) = m + 1 + y by omega, gS_add]
    rw [← hk] at hc
    rw [hc, Nat.mul_left_comm, Nat.mul_add_mod, y2]
theorem starts_all {m j : Nat} (hm : Mk6 m) (v : Int) (hj : j ≤ m) : ∃ n, n ≤ m + 12 ∧ runI m (SetTable.bits v) n = j := by
  obtain ⟨n, n1, n2⟩ := round_all hm (runI_le m (SetTable.bits v) 12) hj
  exact ⟨12 + n, by omega, (runI_tail (bits_lt v) n).trans n2⟩
theorem way_top (m : Nat) (v : Int) (n : Nat) : way m v n ≤ m := by
  have h0 : SetTable.bits v % (m + 1) ≤ m := Nat.le_of_lt_succ (Nat.mod_lt _ (Nat.succ_pos m))
  have h1 := runEnd_bd h0
  have h2 := nth_in (m := m) n (runAt m (SetTable.bits v % (m + 1)) (SetTable.bits v)) (show SetTable.bits v % (m + 1) + (SetTable.runEnd m (SetTable.bits v % (m + 1)) - SetTable.bits v % (m + 1)) ≤ m by omega)
  exact Nat.le_trans (Nat.le_add_right _ _) h2
theorem lcgI_addI (m i a : Nat) : ∀ n, lcgI m (lcgI m i a) n = lcgI m i (a + n)
  | 0 => rfl
  | n + 1 => by
    show (lcgI m (lcgI m i a) n * 5 + 1) % (m + 1) = (lcgI m i (a + n) * 5 + 1) % (m + 1)
    rw [lcgI_addI m i a n]
/-- among one place more than are taken one is free -/
theorem starts_new {m i : Nat} (hm : Mk6 m) (hi : i ≤ m) {S : List Nat} (hS : S.length ≤ m) : ∃ n, n ≤ S.length ∧ lcgI m i n ∉ S := by
  refine Classical.byContradiction fun no => ?_
  have al : ∀ n, n ≤ S.length → lcgI m i n ∈ S := fun n hn => Classical.byContradiction fun z => no ⟨n, hn, z⟩
  by_cases c : ∃ a b, a < b ∧ b ≤ S.length ∧ lcgI m i a = lcgI m i b
  · obtain ⟨a, b, ab, bS, e⟩ := c
    have back : ∀ n, ∃ n', n' < b ∧ lcgI m i n = lcgI m i n' := fun n => by
      induction n using Nat.strongRecOn with
      | ind n ih =>
        by_cases h : n < b
        · exact ⟨n, h, rfl⟩
        · obtain ⟨n', h1, h2⟩ := ih (a + (n - b)) (by omega)
          refine ⟨n', h1, Eq.trans ?_ h2⟩
          rw [← lcgI_addI, e, lcgI_addI, show b + (n - b) = n by omega]
    have sub : ∀ j ∈ List.range (m + 1), j ∈ (List.range b).map (lcgI m i) := fun j hj => by
      obtain ⟨n, _, h⟩ := round_all hm hi (show j ≤ m from Nat.le_of_lt_succ (List.mem_range.mp hj))
      obtain ⟨n', h1, h2⟩ := back n
      exact List.mem_map.mpr ⟨n', List.mem_range.mpr h1, by rw [← h2, h]⟩
    have := List.Nodup.length_le_of_subset List.nodup_range sub
    rw [List.length_range, List.length_map, List.length_range] at this
    omega
  · have nd : ((List.range (S.length + 1)).map (lcgI m i)).Nodup := by
      refine List.Pairwise.map _ ?_ (List.Pairwise.imp_of_mem (R := fun a b => a < b) (S := fun a b => lcgI m i a ≠ lcgI m i b) ?_ List.pairwise_lt_range)
      · exact fun a b h => h
      · intro a b _ hb h e
        exact c ⟨a, b, h, Nat.le_of_lt_succ (List.mem_range.mp hb), e⟩
    have := List.Nodup.length_le_of_subset nd (fun j hj => by
      obtain ⟨n, h1, rfl⟩ := List.mem_map.mp hj
      exact al n (Nat.le_of_lt_succ (List.mem_range.mp h1)))
    rw [List.length_map, List.length_range] at this
    omega
theorem way_new {m : Nat} (hm : Mk6 m) (v : Int) {S : List Nat} (hS : S.length ≤ m) : ∃ n, n ≤ 10 * (S.length + 12) ∧ way m v n ∉ S := by
  obtain ⟨a, a1, a2⟩ := starts_new hm (runI_le m (SetTable.bits v) 12) hS
  obtain ⟨n, n1, n2⟩ := run_nth m (SetTable.bits v) (12 + a)
  refine ⟨n, by omega, ?_⟩
  have : way m v n = lcgI m (runI m (SetTable.bits v) 12) a := (congrArg SetTable.Probe.j n2).trans (runI_tail (bits_lt v) a)
  rw [this]
  exact a2
structure Tab (t : SetTable) (vs : List Int) : Prop where
  up : Ris t.place.toList
  nod : t.dummies = #[]
  len : t.place.size = vs.length
  six : Mk6 t.mask
  top : ∀ z ∈ t.place.toList, z ≤ t.mask
  fnd : ∀ (i : Nat) (v : Int) (j : Nat), vs[i]? = some v → t.place.toList[i]? = some j → ∃ n, way t.mask v n = j ∧ ∀ n', n' < n → way t.mask v n' ∈ t.place.toList
theorem Tab.free {t : SetTable} {vs : List Int} (T : Tab t vs) (hl : vs.length ≤ t.mask) (v : Int) : ∃ N, N ≤ 10 * (vs.length + 12) ∧ way t.mask v N ∉ t.place.toList ∧ ∀ n, n < N → way t.mask v n ∈ t.place.toList := by
  have el : t.place.toList.length = vs.length := by rw [Array.length_toList, T.len]
  obtain ⟨a, a1, j2⟩ := way_new T.six v (S := t.place.toList) (by omega)
  obtain ⟨N, n1, n2, n3⟩ := st_least (p := fun n => way t.mask v n ∉ t.place.toList) a j2
  exact ⟨N, by rw [← el]; exact Nat.le_trans n1 a1, n2, fun n hn => Classical.not_not.mp (n3 n hn)⟩
theorem Tab.ahead {t : SetTable} {vs : List Int} (T : Tab t vs) {v : Int} {N i j : Nat} (hN : way t.mask v N ∉ t.place.toList) (hi : vs[i]? = some v) (hj : t.place.toList[i]? = some j) : ∃ n, n < N ∧ way t.mask v n = j := by
  obtain ⟨n, e, z⟩ := T.fnd i v j hi hj
  refine ⟨n, Nat.lt_of_not_le fun c => ?_, e⟩
  rcases Nat.lt_or_ge N n with q | q
  · exact hN (z N q)
  · rw [show N = n by omega, e] at hN
    exact hN (List.mem_of_getElem? hj)
/-- one more -/
theorem Tab.put {t : SetTable} {vs : List Int} (T : Tab t vs) {v : Int} {N p j : Nat} (ej : way t.mask v N = j) (ep : SetTable.below t.place j = p) (hN : j ∉ t.place.toList) (hb : ∀ n, n < N → way t.mask v n ∈ t.place.toList) :
    p ≤ vs.length ∧ Tab (t.put j).1 (vs.take p ++ v :: vs.drop p) ∧ (t.put j).1.fill = vs.length + 1 := by
  subst ep
  have c1 : SetTable.below t.place j ≤ t.place.size := (below_cut T.up j).1
  have l1 : SetTable.below t.place j ≤ t.place.toList.length := c1
  have l2 : SetTable.below t.place j ≤ vs.length := T.len ▸ c1
  have pl := put_place t j
  have nw : t.place[SetTable.below t.place j]? ≠ some j := fun e => hN (List.mem_of_getElem? (Array.getElem?_toList.trans e))
  have sz : (t.put j).1.place.size = vs.length + 1 := by
    rw [← Array.length_toList, pl, len_ins _ l1, Array.length_toList, T.len]
  have old : ∀ {z : Nat}, z ∈ t.place.toList → z ∈ (t.put j).1.place.toList := fun hz => by
    rw [pl]
    exact mem_ins.2 (.inr hz)
  refine ⟨l2, ⟨ris_insert T.up nw, put_dm T.nod j, by rw [len_ins _ l2, sz], T.six, fun z hz => ?_, fun i u y h1 h2 => ?_⟩, ?_⟩
  · rw [pl] at hz
    rcases mem_ins.1 hz with e | e
    · rw [e, ← ej]
      exact way_top _ _ _
    · exact T.top z e
  · rw [tins_get _ l2] at h1
    rw [pl, tins_get _ l1] at h2
    have back : ∀ i', vs[i']? = some u → t.place.toList[i']? = some y → ∃ n, way t.mask u n = y ∧ ∀ n', n' < n → way t.mask u n' ∈ (t.put j).1.place.toList := fun i' g1 g2 => by
      obtain ⟨n, e, q⟩ := T.fnd i' u y g1 g2
      exact ⟨n, e, fun n' hn => old (q n' hn)⟩
    show ∃ n, way t.mask u n = y ∧ ∀ n', n' < n → way t.mask u n' ∈ (t.put j).1.place.toList
    split at h1
    · rename_i c
      rw [if_pos c] at h2
      exact back i h1 h2
    · rename_i c
      rw [if_neg c] at h2
      split at h1
      · rename_i d
        rw [if_pos d] at h2
        cases h1
        cases h2
        exact ⟨N, ej, fun n' hn => old (hb n' hn)⟩
      · rename_i d
        rw [if_neg d] at h2
        exact back (i - 1) h1 h2
  · show (t.put j).1.place.size + (t.put j).1.dummies.size = _
    rw [sz, put_dm T.nod j]
    rfl
theorem free_at {m j : Nat} (hm : Mk6 m) (ow : Array (Option Nat)) (v : Int) (hj : j ≤ m) (hf : oAt ow j = none) :
    ∃ N, SetTable.layClean.free m ow (SetTable.turns m) (SetTable.bits v % (m + 1)) (SetTable.bits v) = some (way m v N) ∧ oAt ow (way m v N) = none ∧ ∀ n, n < N → oAt ow (way m v n) ≠ none := by
  obtain ⟨a, a1, a2⟩ := starts_all hm v hj
  have e0 : way m v (off m (SetTable.bits v % (m + 1)) (SetTable.bits v) a) = j := by
    refine (congrArg SetTable.Probe.j (nth_off m a _ _)).trans ?_
    rw [itL_run]
    exact a2
  obtain ⟨N, n1, n2, n3⟩ := st_least (p := fun n => oAt ow (way m v n) = none) _ (show oAt ow (way m v (off m (SetTable.bits v % (m + 1)) (SetTable.bits v) a)) = none by rw [e0]; exact hf)
  refine ⟨N, free_spec m ow _ a _ _ N (by show a < m + 15; omega) n1 (fun n hn => ?_) (by show (oAt ow (way m v N)).isNone = true; rw [n2]; rfl), n2, n3⟩
  cases q : oAt ow (way m v n) with
  | none => exact absurd q (n3 n hn)
  | some _ => rfl
theorem own_step {m : Nat} (hm : Mk6 m) {done : List Int} {ow : Array (Option Nat)} (W : L2.Own m done ow) (hl : done.length ≤ m) (v : Int) :
    ∃ j, SetTable.layClean.free m ow (SetTable.turns m) (SetTable.bits v % (m + 1)) (SetTable.bits v) = some j ∧ L2.Own m (done ++ [v]) (ow.setIfInBounds j (some done.length)) := by
  obtain ⟨ps, p1, p2⟩ := W.ps
  obtain ⟨f, f1, f2⟩ := st_missing ps (m + 1) (by omega)
  have f3 : oAt ow f = none := Classical.byContradiction fun z => f2 (p2 f (Nat.le_of_lt_succ f1) z)
  obtain ⟨N, e1, e2, e3⟩ := free_at hm ow v (Nat.le_of_lt_succ f1) f3
  have top := way_top m v N
  generalize ej : way m v N = j at e1 e2 top
  have me := oAt_set_self (some done.length) (show j < ow.size by rw [W.sz]; omega)
  have ne : ∀ {i : Nat}, oAt ow i ≠ none → i ≠ j := fun h z => h (z ▸ e2)
  have kp : ∀ {i : Nat}, oAt ow i ≠ none → oAt (ow.setIfInBounds j (some done.length)) i ≠ none := fun h => by
    rw [oAt_set_ne _ (ne h)]
    exact h
  refine ⟨j, e1, (Array.size_setIfInBounds ..).trans W.sz, fun i k hi e => ?_, fun k hk => ?_, j :: ps, by simp [p1], fun i hi e => ?_⟩
  · by_cases c : i = j
    · rw [c, me] at e
      cases e
      exact ⟨v, N, by simp, ej.trans c.symm, fun n hn => kp (e3 n hn)⟩
    · rw [oAt_set_ne _ c] at e
      obtain ⟨u, n, b1, b2, b3⟩ := W.at_ i k hi e
      exact ⟨u, n, by rw [List.getElem?_append_left (List.getElem?_eq_some_iff.mp b1).1]; exact b1, b2, fun n' hn => kp (b3 n' hn)⟩
  · rw [List.length_append] at hk
    by_cases c : k < done.length
    · obtain ⟨i, i1, i2⟩ := W.all k c
      exact ⟨i, i1, by rw [oAt_set_ne _ (ne (by rw [i2]; exact fun z => nomatch z))]; exact i2⟩
    · obtain rfl : k = done.length := by have : k < done.length + 1 := hk; omega
      exact ⟨j, top, me⟩
  · by_cases c : i = j
    · rw [c]
      exact List.mem_cons_self
    · rw [oAt_set_ne _ c] at e
      exact List.mem_cons_of_mem _ (p2 i hi e)
theorem own_fold {m : Nat} (hm : Mk6 m) : ∀ (more done : List Int) (ow : Array (Option Nat)), L2.Own m done ow → done.length + more.length ≤ m →
    ∃ ow', more.foldl (stepF m) (some (ow, done.length)) = some (ow', (done ++ more).length) ∧ L2.Own m (done ++ more) ow'
  | [], done, ow, W, _ => ⟨ow, by simp, by simpa using W⟩
  | v :: more, done, ow, W, hl => by
    have h2 : done.length + (more.length + 1) ≤ m := hl
    obtain ⟨j, e, W1⟩ := own_step hm W (by omega) v
    obtain ⟨ow', g1, g2⟩ := own_fold hm more (done ++ [v]) _ W1 (by rw [List.length_append]; show done.length + 1 + more.length ≤ m; omega)
    rw [List.append_assoc] at g1 g2
    refine ⟨ow', ?_, g2⟩
    rw [List.foldl_cons, stepF_some e]
    rw [List.length_append] at g1
    exact g1
theorem lay_all {m : Nat} (hm : Mk6 m) {vs : Array Int} (hn : vs.size ≤ m) : ∃ ow, SetTable.layClean m vs = some ow ∧ L2.Own m vs.toList ow := by
  obtain ⟨ow, g1, g2⟩ := own_fold hm vs.toList [] _ (L2.Own.init m) (by simpa using hn)
  refine ⟨ow, (layClean_eq m vs).trans ?_, g2⟩
  have g3 : vs.toList.foldl (stepF m) (some (Array.replicate (m + 1) none, 0)) = some (ow, vs.toList.length) := g1
  rw [g3]
  rfl
theorem lay_anew (t : SetTable) {vs : Array Int} {want M : Nat} (hw : SetTable.sizeAbove want - 1 = M) (hM : Mk6 M) (hn : vs.size ≤ M) :
    ∃ t' ord, t.relaid vs want = some (t', ord) ∧ ord.toList.Perm (List.range vs.size) ∧ Tab t' (ord.toList.map fun i => vs.getD i 0) ∧ t'.mask = M ∧ t'.led = t.led ∧ t'.plain = t.plain := by
  obtain ⟨ow, e, W⟩ := lay_all hM hn
  have rs := ris_live (fun j => ow.getD j none) (List.range (M + 1)) (show List.Pairwise (· < ·) (List.range (M + 1)) from List.pairwise_lt_range)
  have u1 : Ris ((liveOf M ow).map (·.1)) := rs.1
  have u2 : ∀ z ∈ (liveOf M ow).map (·.1), z ∈ List.range (M + 1) := rs.2
  have hav : ∀ k, k < vs.size → k ∈ (liveOf M ow).map (·.2) := fun k hk => by
    obtain ⟨j, b1, b2⟩ := W.all k (by simpa using hk)
    exact List.mem_map.mpr ⟨(j, k), (mem_live W.sz).2 ⟨b1, b2⟩, rfl⟩
  have nd : ((liveOf M ow).map (·.1)).Nodup := List.Pairwise.imp (R := (· < ·)) (fun {a b} (h : a < b) => Nat.ne_of_lt h) u1
  have cnt : (liveOf M ow).length = vs.size := by
    obtain ⟨ps, p1, p2⟩ := W.ps
    have h1 := nat_nodup_len _ ps nd fun z hz => by
      obtain ⟨⟨y, k⟩, hq, rfl⟩ := List.mem_map.mp hz
      obtain ⟨b1, b2⟩ := (mem_live W.sz).1 hq
      exact p2 y b1 (by rw [b2]; exact fun z => nomatch z)
    have h2 := nat_nodup_len (List.range vs.size) ((liveOf M ow).map (·.2)) List.nodup_range fun k hk => hav k (List.mem_range.mp hk)
    simp only [List.length_map, List.length_range, Array.length_toList] at h1 h2 p1
    omega
  refine ⟨tabOf t M ow, ((liveOf M ow).map (·.2)).toArray, by rw [relaid_eq, hw, e]; rfl, perm_range _ _ (by simpa using cnt) hav, ⟨u1, rfl, by show ((liveOf M ow).map (·.1)).toArray.size = _; simp, hM, fun z hz => Nat.le_of_lt_succ (List.mem_range.mp (u2 z hz)), fun i u j h1 h2 => ?_⟩, rfl, rfl, rfl⟩
  have g1 : (((liveOf M ow).map (·.2)).map fun i => vs.getD i 0)[i]? = some u := h1
  have g2 : ((liveOf M ow).map (·.1))[i]? = some j := h2
  simp only [List.getElem?_map, Option.map_map] at g1 g2
  obtain ⟨⟨y, k⟩, q1, q2⟩ := Option.map_eq_some_iff.mp g2
  rw [q1] at g1
  obtain rfl : y = j := q2
  obtain rfl : vs.getD k 0 = u := Option.some.inj g1
  obtain ⟨b1, b2⟩ := (mem_live W.sz).1 (List.mem_of_getElem? q1)
  obtain ⟨u0, n, a1, a2, a3⟩ := W.at_ y k b1 b2
  obtain rfl : vs.getD k 0 = u0 := by rw [Array.getD_eq_getD_getElem?, ← Array.getElem?_toList, a1]; rfl
  refine ⟨n, a2, fun n' hn => ?_⟩
  show way M (vs.getD k 0) n' ∈ (liveOf M ow).map (·.1)
  obtain ⟨z, hz⟩ := Option.ne_none_iff_exists'.mp (a3 n' hn)
  exact List.mem_map.mpr ⟨(_, z), (mem_live W.sz).2 ⟨way_top _ _ _, hz⟩, rfl⟩
/-- where it grows, and how far -/
theorem grow_at {m n : Nat} (h : Mk6 m) (h1 : n * 5 < m * 3) (h2 : m * 3 ≤ (n + 1) * 5) (h3 : n ≤ 9500) : ∃ M, Mk6 M ∧ SetTable.sizeAbove (SetTable.grown (n + 1)) - 1 = M ∧ SetTable.sizeAbove (SetTable.grown (n + 1)) ≤ 32768 ∧ (n + 1) * 5 < M * 3 ∧ n + 1 ≤ m := by
  rcases h with rfl | rfl | rfl | rfl | rfl | rfl | rfl
  · obtain rfl : n = 4 := by omega
    exact ⟨31, .inr (.inl rfl), by decide +kernel, by decide +kernel, by decide, by decide⟩
  · obtain rfl : n = 18 := by omega
    exact ⟨127, .inr (.inr (.inl rfl)), by decide +kernel, by decide +kernel, by decide, by decide⟩
  · obtain rfl : n = 76 := by omega
    exact ⟨511, .inr (.inr (.inr (.inl rfl))), by decide +kernel, by decide +kernel, by decide, by decide⟩
  · obtain rfl : n = 306 := by omega
    exact ⟨2047, .inr (.inr (.inr (.inr (.inl rfl)))), by decide +kernel, by decide +kernel, by decide, by decide⟩
  · obtain rfl : n = 1228 := by omega
    exact ⟨8191, .inr (.inr (.inr (.inr (.inr (.inl rfl))))), by decide +kernel, by decide +kernel, by decide, by decide⟩
  · obtain rfl : n = 4914 := by omega
    exact ⟨32767, .inr (.inr (.inr (.inr (.inr (.inr rfl))))), by decide +kernel, by decide +kernel, by decide, by decide⟩
  · omega
end CG
namespace CG
open PySem PySem.Spec PyProof.Rows L2
/-- the set at a holds the rows L -/
structure SetW (P : Program) (w : World) (h : Heap) (a : Addr) (L : List (Addr × List Int)) (es : Array (Int × Value)) (ep : Nat) (t : SetTable) : Prop where
  obj : ∃ o, h.get? a = some o ∧ o.ExactSet ∧ o.data = .set es ep t
  its : es.toList = rowsOf P w L
  tbl : Tab t (L.map fun p => thash P w p.2)
  dis : (L.map (·.2)).Nodup
  all : ∀ p ∈ L, IsT P w h p.2 p.1
  pln : t.plain = true
  ord : w.params.followText "set-order" = true ∨ t.led = true
  gap : L.length * 5 < t.mask * 3
section
variable {P : Program} {w : World} {A : Around} {E : Value → Shared → Prop} {s : Shared} {a : Addr} {L : List (Addr × List Int)} {es : Array (Int × Value)} {ep : Nat} {t : SetTable}
theorem rows_size {L : List (Addr × List Int)} {es : Array (Int × Value)} (h : es.toList = rowsOf P w L) : es.size = L.length := by
  rw [← Array.length_toList, h]
  exact List.length_map _
theorem fits_of {n : Nat} (h1 : t.place.size = n) (h2 : t.dummies = #[]) (h3 : n ≤ t.mask) : t.fits n = true := by
  unfold SetTable.fits SetTable.fill
  rw [h2, h1]
  simpa using h3
theorem SetW.fit (R : SetW P w s.heap a L es ep t) : t.fits es.size = true := by
  have g := R.gap
  have q := rows_size R.its
  exact fits_of (R.tbl.len.trans ((List.length_map _).trans q.symm)) R.tbl.nod (by omega)
theorem SetW.at (R : SetW P w s.heap a L es ep t) {i : Nat} {p : Addr × List Int} (h : L[i]? = some p) : es[i]? = some (thash P w p.2, Value.ref p.1) := by
  rw [← Array.getElem?_toList, R.its]
  exact (List.getElem?_map ..).trans (by rw [h]; rfl)
theorem SetW.stays (R : SetW P w s.heap a L es ep t) : t.gaveWay = false := by
  unfold SetTable.gaveWay
  rcases R.tbl.six with e | e | e | e | e | e | e <;> rw [e] <;> rfl
theorem noDummy (m : Nat) : ∀ (n : Nat) (p : SetTable.Probe), p.dummy = none → (nth m p n).dummy = none
  | 0, _, h => h
  | n + 1, p, h => noDummy m n (adv m p) (by unfold adv; split <;> exact h)
/-- the n-th step of the way of a hash -/
noncomputable abbrev stp (m : Nat) (v : Int) (n : Nat) : SetTable.Probe := nth m (runAt m (SetTable.bits v % (m + 1)) (SetTable.bits v)) n
theorem seek (R : SetW P w s.heap a L es ep t) {x : Addr} {k : List Int} {v : Int} (ev : v = thash P w k) (hx : IsT P w s.heap k x) (hu : A.units < cLine) {N : Nat} (top : N < 10 * SetTable.turns t.mask)
    (hN : way t.mask v N ∉ t.place.toList) (hb : ∀ c, c < N → way t.mask v c ∈ t.place.toList) {Q : SetFound → Shared → Prop}
    (yes : k ∈ L.map (·.2) → Q (.there none) s) (no : k ∉ L.map (·.2) → Q (.free (way t.mask v N) false) s) :
    ∀ (f c : Nat) (sd : Option SetTable.Probe), sd.getD (t.probeStart v) = stp t.mask v c → c ≤ N → N - c < f →
      (∀ (i : Nat) p, L[i]? = some p → p.2 = k → ∃ c', c ≤ c' ∧ c' < N ∧ t.place.toList[i]? = some (way t.mask v c')) →
      wpAny (model P w) A (setSearchFrom a (.ref x) v true f sd) Q E s
  | 0, _, _, _, _, z, _ => absurd z (Nat.not_lt_zero _)
  | f + 1, c, sd, hsd, hc, hf, still => by
    obtain ⟨o, o1, o2, o3⟩ := R.obj
    have st : ∀ q, nth t.mask (stp t.mask v c) q = stp t.mask v (c + q) := fun q => (nth_add t.mask c _ q).symm
    have sj : ∀ q, (nth t.mask (stp t.mask v c) q).j = way t.mask v (c + q) := fun q => congrArg SetTable.Probe.j (st q)
    have hs : ∀ (i : Nat) p, L[i]? = some p → (es[i]?.map (·.1)).getD 0 = thash P w p.2 := fun i p h => by rw [R.at h]; rfl
    have out := go_spec t R.tbl.up R.tbl.nod (fun i => (es[i]?.map (·.1)).getD 0) v (10 * SetTable.turns t.mask) (N - c) (stp t.mask v c) (noDummy _ _ _ rfl) (by omega)
      (fun q hq => by rw [sj]; exact hb _ (by omega)) (by rw [sj, show c + (N - c) = N by omega]; exact hN)
    rw [setSearchFrom_succ]
    refine wpAny_bind (wpAny_setState_of o1 o3 R.fit ?_)
    dsimp only
    refine wp_if_neg (by rw [R.stays]; decide) ?_
    try refine wpAny_bind (wpAny_pure ?_)
    rcases out with ⟨q, i, q1, q2, q3, q4, q5⟩ | ⟨q4, q5⟩
    · rw [st, st] at q5
      rw [sj] at q2
      have q6 : t.probe (fun i => (es[i]?.map (·.1)).getD 0) v (sd.getD (t.probeStart v)) = some (.candidate (way t.mask v (c + q)) i (stp t.mask v (c + (q + 1)))) := by
        rw [hsd]
        exact q5
      rw [q6]
      dsimp only
      have hi : i < L.length := by
        have z := (List.getElem?_eq_some_iff.mp q2).1
        rw [Array.length_toList, R.tbl.len, List.length_map] at z
        exact z
      obtain ⟨p, hp⟩ : ∃ p, L[i]? = some p := ⟨_, List.getElem?_eq_getElem hi⟩
      have pin := List.mem_of_getElem? hp
      have live := slot_live R.tbl.up q2
      have rest : wpAny (model P w) A (searchRest a (.ref x) v true f es t (way t.mask v (c + q)) i (stp t.mask v (c + (q + 1)))) Q E s := by
        unfold searchRest
        rw [R.at hp]
        dsimp only
        refine wpAny_bind (wpAny_holding (wpAny_eqBool_tuple hu (R.all p pin) hx ?_))
        refine wpAny_bind (wpAny_setState_of o1 o3 R.fit ?_)
        dsimp only
        by_cases same : p.2 = k
        · refine wp_if_pos (by simp [same]) (wpAny_pure (yes (List.mem_map.mpr ⟨p, pin, same⟩)))
        · refine wp_if_neg (by simp [same]) ?_
          try refine wpAny_bind (wpAny_pure ?_)
          rw [sameMem]
          dsimp only
          simp only [if_true, live, R.at hp]
          refine wpAny_bind (wpAny_isSame_ref_self (wpAny_bind (wpAny_pure ?_)))
          simp only [if_true]
          refine wp_if_neg (by simp [same]) ?_
          refine seek R ev hx hu top hN hb yes no f (c + (q + 1)) _ rfl (by omega) (by omega) fun i0 p0 z1 z2 => ?_
          obtain ⟨c', b1, b2, b3⟩ := still i0 p0 z1 z2
          refine ⟨c', Classical.byContradiction fun lt => ?_, b2, b3⟩
          by_cases ec : c' = c + q
          · rw [ec] at b3
            have z3 := slot_live R.tbl.up b3
            rw [live] at z3
            cases z3
            rw [hp] at z1
            cases z1
            exact same z2
          · refine q4 (c' - c) i0 (by omega) (by rw [sj, show c + (c' - c) = c' by omega]; exact b3) ?_
            rw [hs i0 p0 z1, z2, ev]
      by_cases hl : t.led = true
      · refine wp_if_neg (by simp [hl]) ?_
        try refine wpAny_bind (wpAny_pure ?_)
        exact rest
      · refine wp_if_pos (by simp [hl]) (wpAny_bind (seen_tup hx (fun y hy => ?_) ?_))
        · obtain ⟨e, e1, rfl⟩ := List.mem_map.mp hy
          have e2 : e ∈ es.toList := by
            have z : e ∈ es ∧ e.1 = v := by simpa using e1
            simpa using z.1
          rw [R.its] at e2
          obtain ⟨p2, p3, rfl⟩ := List.mem_map.mp e2
          exact ⟨p2.2, p2.1, rfl, R.all p2 p3⟩
        · refine wp_if_neg (by decide) ?_
          try refine wpAny_bind (wpAny_pure ?_)
          exact rest
    · have q6 : t.probe (fun i => (es[i]?.map (·.1)).getD 0) v (sd.getD (t.probeStart v)) = some (.empty (way t.mask v N) none) := by
        rw [sj, show c + (N - c) = N by omega] at q5
        rw [hsd]
        exact q5
      rw [q6]
      dsimp only
      refine wpAny_pure (no fun z => ?_)
      obtain ⟨p0, z1, z2⟩ := List.mem_map.mp z
      obtain ⟨i0, z3⟩ := List.mem_iff_getElem?.mp z1
      obtain ⟨c', b1, b2, b3⟩ := still i0 p0 z3 z2
      refine q4 (c' - c) i0 (by omega) (by rw [sj, show c + (c' - c) = c' by omega]; exact b3) ?_
      rw [hs i0 p0 z3, z2, ev]
theorem seek_all (R : SetW P w s.heap a L es ep t) {x : Addr} {k : List Int} (hx : IsT P w s.heap k x) (hu : A.units < cLine) (hl : L.length ≤ 9500) {Q : SetFound → Shared → Prop}
    (yes : k ∈ L.map (·.2) → Q (.there none) s)
    (no : ∀ N, k ∉ L.map (·.2) → way t.mask (thash P w k) N ∉ t.place.toList → (∀ c, c < N → way t.mask (thash P w k) c ∈ t.place.toList) → Q (.free (way t.mask (thash P w k) N) false) s) :
    wpAny (model P w) A (setSearch a (.ref x) (thash P w k) true) Q E s := by
  have g := R.gap
  have m8 := R.tbl.six.le
  obtain ⟨N, n1, n2, n3⟩ := R.tbl.free (by rw [List.length_map]; omega) (thash P w k)
  rw [List.length_map] at n1
  unfold setSearch
  refine seek R rfl hx hu (show N < 10 * (t.mask + 15) by omega) n2 n3 yes (fun z => no N z n2 n3) 100000 0 none rfl (Nat.zero_le _) (by omega) fun i p h e => ?_
  have h1 : (L.map fun p => thash P w p.2)[i]? = some (thash P w k) := by rw [List.getElem?_map, h, ← e]; rfl
  have h2 : i < t.place.toList.length := by
    rw [Array.length_toList, R.tbl.len]
    exact (List.getElem?_eq_some_iff.mp h1).1
  obtain ⟨c, c1, c2⟩ := R.tbl.ahead n2 h1 (List.getElem?_eq_getElem h2)
  exact ⟨c, Nat.zero_le _, c1, by rw [List.getElem?_eq_getElem h2, c2]⟩
/-- a larger table -/
theorem relayed {o : Obj} (o1 : s.heap.get? a = some o) (o2 : o.ExactSet) (o3 : o.data = .set es ep t) (its : es.toList = rowsOf P w L) (len : t.place.size = es.size) (nod : t.dummies = #[]) (low : es.size ≤ t.mask)
    (dis : (L.map (·.2)).Nodup) (all : ∀ p ∈ L, IsT P w s.heap p.2 p.1) (pln : t.plain = true) (ord : w.params.followText "set-order" = true ∨ t.led = true) {want M : Nat}
    (hw : SetTable.sizeAbove want - 1 = M) (hM : Mk6 M) (hw2 : SetTable.sizeAbove want ≤ 32768) (gap : L.length * 5 < M * 3) {Q : Unit → Shared → Prop}
    (hQ : ∀ h' L' es' ep' t', Heap.SameBut a s.heap h' → SetW P w h' a L' es' ep' t' → L'.Perm L → Q () { s with heap := h' }) : wpAny (model P w) A (setRelay a want) Q E s := by
  have z := rows_size its
  obtain ⟨t', od, e, od1, T, em, el, epl⟩ := lay_anew t (vs := es.map (·.1)) (want := want) hw hM (by rw [Array.size_map, z]; omega)
  rw [Array.size_map, z] at od1
  obtain ⟨L2, r1, r2, r3⟩ := order_rows L es od its od1
  rw [← r3] at T
  have z2 : (od.filterMap (es[·]?)).size = es.size := (rows_size r1).trans (r2.length_eq.trans z.symm)
  rw [setRelay_eq]
  refine wpAny_bind (wpAny_setState_of o1 o3 (fits_of len nod low) ?_)
  dsimp only
  refine wp_if_neg (by rw [sizeLine_eq]; omega) ?_
  try refine wpAny_bind (wpAny_pure ?_)
  rw [e]
  dsimp only
  refine wpAny_bind (wp_if_neg (by rw [z2]; simp) ?_)
  try refine wpAny_bind (wpAny_pure ?_)
  refine wpAny_pure ?_
  dsimp only
  refine wpAny_storeSet_of o1 o3 ?_ (by rw [z2, z, sizeLine_eq]; have := hM.le; omega)
  have sb : Heap.SameBut a s.heap (s.heap.update a (Obj.putSet (od.filterMap (es[·]?)) t')) := Heap.SameBut.update ..
  exact hQ _ L2 _ (ep + 1) t' sb ⟨⟨_, store_at o1 o3, ⟨o2.1, o2.2.1, o2.2.2⟩, rfl⟩, r1, T, (r2.map (·.2)).nodup_iff.mpr dis, fun p hp => isT_same (all p (r2.mem_iff.mp hp)) o1 o3 sb, epl.trans pln, by rw [el]; exact ord, by rw [r2.length_eq, em]; exact gap⟩ r2
/-- s.add(x) -/
theorem added (R : SetW P w s.heap a L es ep t) {x : Addr} {k : List Int} (hx : IsT P w s.heap k x) (hu : A.units < cLine) (hl : L.length ≤ 9500) {Q : Bool → Shared → Prop}
    (hQ : ∀ b h' L' es' ep' t', Heap.SameBut a s.heap h' → SetW P w h' a L' es' ep' t' → (k ∈ L.map (·.2) → L' = L) → (k ∉ L.map (·.2) → L'.Perm ((x, k) :: L)) → Q b { s with heap := h' }) :
    wpAny (model P w) A (setAddHashed a (.ref x) (thash P w k)) Q E s := by
  obtain ⟨o, o1, o2, o3⟩ := R.obj
  have z := rows_size R.its
  have g := R.gap
  unfold setAddHashed
  refine wpAny_holding ?_
  rw [show (100000 : Nat) = 99999 + 1 from rfl, setAddHashedIn_succ]
  refine wpAny_bind (wpAny_setState_of o1 o3 R.fit ?_)
  dsimp only
  refine wp_if_neg (by simp [byScan, Value.scannable]) ?_
  try refine wpAny_bind (wpAny_pure ?_)
  refine wpAny_bind (seek_all R hx hu hl (fun hm => ?_) fun N hm n1 n2 => ?_)
  · dsimp only
    exact wpAny_pure (hQ false s.heap L es ep t (Heap.SameBut.refl a s.heap) R (fun _ => rfl) fun q => absurd hm q)
  dsimp only
  refine wpAny_bind (wpAny_setState_of o1 o3 R.fit ?_)
  dsimp only
  obtain ⟨j, ej⟩ : ∃ j, way t.mask (thash P w k) N = j := ⟨_, rfl⟩
  obtain ⟨p, ep2⟩ : ∃ p, SetTable.below t.place j = p := ⟨_, rfl⟩
  rw [ej] at n1 ⊢
  obtain ⟨u1, u2, u3⟩ := R.tbl.put ej ep2 n1 n2
  have v1 : (t.put j).2 = p := ep2
  have v2 : (t.put j).1.mask = t.mask := rfl
  have v3 : (t.put j).1.plain = true := R.pln
  have v4 : w.params.followText "set-order" = true ∨ (t.put j).1.led = true := R.ord
  generalize t.put j = tp at u2 u3 v1 v2 v3 v4 ⊢
  obtain ⟨t1, p1⟩ := tp
  dsimp only at u2 u3 v1 v2 v3 v4 ⊢
  subst v1
  first
    | (refine wpAny_bind ?_; refine wp_if_pos v3 ?_; refine hashBy_tup hx ?_)
    | refine wp_if_pos v3 (wpAny_bind (hashBy_tup hx ?_))
  simp only [if_true]
  have w1 : (SetTable.insertAt es p1 (thash P w k, Value.ref x)).toList = rowsOf P w (L.take p1 ++ (x, k) :: L.drop p1) := by
    rw [SetTable.toList_insertAt, rows_put, R.its]
  have pm := put_perm L p1 (x, k)
  have u4 : (L.take p1 ++ (x, k) :: L.drop p1).map (fun p => thash P w p.2) = (L.map fun p => thash P w p.2).take p1 ++ thash P w k :: (L.map fun p => thash P w p.2).drop p1 := by
    simp only [List.map_append, List.map_cons, List.map_take, List.map_drop]
  rw [← u4] at u2
  have w2 := (rows_size w1).trans pm.length_eq
  generalize SetTable.insertAt es p1 (thash P w k, Value.ref x) = e1 at w1 w2 ⊢
  generalize L.take p1 ++ (x, k) :: L.drop p1 = L1 at pm u2 w1
  have l1 : L1.length = L.length + 1 := pm.length_eq
  have w3 : e1.size = L.length + 1 := w2
  have dis : (L1.map (·.2)).Nodup := (pm.map (·.2)).nodup_iff.mpr (List.nodup_cons.mpr ⟨hm, R.dis⟩)
  refine wpAny_bind (wpAny_storeSet_of o1 o3 ?_ (by rw [w3, sizeLine_eq]; omega))
  have sb : Heap.SameBut a s.heap (s.heap.update a (Obj.putSet e1 t1)) := Heap.SameBut.update ..
  have o4 := store_at (es' := e1) (t' := t1) o1 o3
  generalize s.heap.update a (Obj.putSet e1 t1) = h1 at sb o4 ⊢
  have al : ∀ p ∈ L1, IsT P w h1 p.2 p.1 := fun q hq => by
    rcases List.mem_cons.mp (pm.mem_iff.mp hq) with rfl | z9
    · exact isT_same hx o1 o3 sb
    · exact isT_same (R.all q z9) o1 o3 sb
  rw [List.length_map] at u3
  by_cases hf : t1.tooFull = true
  · have full : t1.mask * 3 ≤ (L.length + 1) * 5 := by
      have q := of_decide_eq_true hf
      rw [u3] at q
      exact q
    rw [v2] at full
    obtain ⟨M, m1, m2, m3, m4, m5⟩ := grow_at R.tbl.six g full hl
    first
      | (refine wpAny_bind ?_; refine wp_if_pos (by simp [hf]) ?_)
      | (refine wp_if_pos (by simp [hf]) ?_; refine wpAny_bind ?_)
    rw [z]
    refine relayed (s := { s with heap := h1 }) o4 ⟨o2.1, o2.2.1, o2.2.2⟩ rfl w1 (u2.len.trans ((List.length_map _).trans (l1.trans w3.symm))) u2.nod (by rw [w3, v2]; exact m5) dis al v3 v4 m2 m1 m3 (by rw [l1]; exact m4) fun h2 L2 es2 ep2 t2 sb2 R2 pm2 => ?_
    exact wpAny_pure (hQ true h2 L2 es2 ep2 t2 (sb.trans sb2) R2 (fun q => absurd q hm) fun _ => pm2.trans pm)
  · first
      | refine wp_if_neg (by simp [hf]) ?_
      | (refine wpAny_bind ?_; refine wp_if_neg (by simp [hf]) ?_; refine wpAny_pure ?_)
    refine wpAny_pure (hQ true h1 L1 e1 (ep + 1) t1 sb ⟨⟨_, o4, ⟨o2.1, o2.2.1, o2.2.2⟩, rfl⟩, w1, u2, dis, al, v3, v4, ?_⟩ (fun q => absurd q hm) fun _ => pm)
    have q := hf
    unfold SetTable.tooFull at q
    rw [decide_eq_true_eq, u3] at q
    omega
end
end CG
namespace CG
open PySem PySem.Spec PyProof.Rows L2
/-- the rows that the set got from these -/
structure Has2 (ks : List (Addr × List Int)) (i : Nat) (L : List (Addr × List Int)) : Prop where
  sub : ∀ p ∈ L, p ∈ ks.take i
  all : ∀ p ∈ ks.take i, p.2 ∈ L.map (·.2)
  len : L.length ≤ i
theorem Has2.next {ks L L' : List (Addr × List Int)} {i : Nat} {x : Addr × List Int} (g : Has2 ks i L) (h : ks[i]? = some x) (h1 : x.2 ∈ L.map (·.2) → L' = L) (h2 : x.2 ∉ L.map (·.2) → L'.Perm (x :: L)) : Has2 ks (i + 1) L' := by
  have tk : ∀ p, p ∈ ks.take (i + 1) ↔ p ∈ ks.take i ∨ p = x := fun p => by rw [L2.take_next h, List.mem_append, List.mem_singleton]
  by_cases c : x.2 ∈ L.map (·.2)
  · rw [h1 c]
    refine ⟨fun p hp => (tk p).2 (.inl (g.sub p hp)), fun p hp => ?_, Nat.le_succ_of_le g.len⟩
    rcases (tk p).1 hp with q | rfl
    · exact g.all p q
    · exact c
  · have pm := h2 c
    refine ⟨fun p hp => ?_, fun p hp => ?_, ?_⟩
    · rcases List.mem_cons.mp (pm.mem_iff.mp hp) with rfl | q
      · exact (tk _).2 (.inr rfl)
      · exact (tk p).2 (.inl (g.sub p q))
    · refine (pm.map (·.2)).mem_iff.mpr ?_
      rcases (tk p).1 hp with q | rfl
      · exact List.mem_cons_of_mem _ (g.all p q)
      · exact List.mem_cons_self
    · have := g.len
      rw [pm.length_eq]
      show L.length + 1 ≤ i + 1
      omega
noncomputable def emptySet (w : World) : Obj := { cls := .type "set", dict := none, data := .set #[] 0 (.fresh 0 0 (!w.params.followText "set-order")) }
theorem setW_new {P : Program} {w : World} {h : Heap} {a : Addr} (ho : h.get? a = some (emptySet w)) : SetW P w h a [] #[] 0 (.fresh 0 0 (!w.params.followText "set-order")) where
  obj := ⟨_, ho, ⟨rfl, rfl, rfl⟩, rfl⟩
  its := rfl
  tbl := ⟨.nil, rfl, rfl, .inl rfl, (fun _ h => nomatch h), fun _ _ _ h => by simp at h⟩
  dis := .nil
  all := fun _ h => nomatch h
  pln := rfl
  ord := by
    show _ ∨ (!w.params.followText "set-order") = true
    cases w.params.followText "set-order"
    · exact .inr rfl
    · exact .inl rfl
  gap := by show 0 * 5 < 7 * 3; decide
section
variable {P : Program} {w : World} {A : Around} {E : Value → Shared → Prop} {s : Shared}
theorem SetW.kept {h h' : Heap} {a : Addr} {L : List (Addr × List Int)} {es : Array (Int × Value)} {ep : Nat} {t : SetTable} (R : SetW P w h a L es ep t) (h1 : ∀ o, h.get? a = some o → h'.get? a = some o) (h2 : ∀ p ∈ L, IsT P w h' p.2 p.1) : SetW P w h' a L es ep t := by
  obtain ⟨o, q, r⟩ := R.obj
  exact ⟨⟨o, h1 o q, r⟩, R.its, R.tbl, R.dis, h2, R.pln, R.ord, R.gap⟩
/-- the loop of set(xs) -/
theorem upd_loop {I : Addr} {fp wr : List Addr} {G : Array GenState → Array GenState → Prop} {n : Nat} {Pv : Nat → Value → Prop} {St : Nat → Shared → Prop} {R : Result → Shared → Prop}
    (W : WalksS P w A.in1 I fp wr G n Pv St) (S : Addr) (nS : S ∉ fp) (ks : List (Addr × List Int)) (hn : n = ks.length) (few : ks.length ≤ 9500) (hv : ∀ i v, Pv i v → ∃ p, ks[i]? = some p ∧ v = .ref p.1)
    (h0 : Heap) (hk : ∀ p ∈ ks, IsT P w h0 p.2 p.1) (S0 : h0.get? S = none) (w0 : ∀ b ∈ wr, h0.get? b = none) (hu : A.in1.units < cLine) :
    ∀ (k i : Nat) (s : Shared), n - i = k → i ≤ n → St i s → (∀ b o, h0.get? b = some o → s.heap.get? b = some o) → (∃ L es ep t, SetW P w s.heap S L es ep t ∧ Has2 ks i L) →
      (∀ s' L es ep t, Moved (S :: wr) G s s' → SetW P w s'.heap S L es ep t → Has2 ks n L → (∀ b o, h0.get? b = some o → s'.heap.get? b = some o) → R (.ok (.ret .none)) s') →
      codeAny (model P w) A (.builtin "set.update.loop" ⟨[.ref S, .ref I], []⟩) R s := by
  have nw : S ∉ wr := fun z => nS (W.sub _ z)
  have kpt : ∀ {s1 s2 : Shared}, Moved wr G s1 s2 → (∀ b o, h0.get? b = some o → s1.heap.get? b = some o) → ∀ b o, h0.get? b = some o → s2.heap.get? b = some o := fun hm q b o e =>
    hm.heap b o (fun z => by rw [w0 b z] at e; cases e) (q b o e)
  intro k
  induction k with
  | zero =>
    intro i s1 c1 c2 st q ⟨L, es, ep, t, R1, g⟩ fin
    have ei : i = n := by omega
    rw [ei] at g st
    refine codeAny_builtin F.entry_set_update_loop ?_
    rw [Around.under_plainId F.plain_set_update_loop _]
    show wpAny _ A.in1 (pyNext (.ref I) >>= _) _ _ s1
    refine wpAny_bind (W.done s1 _ _ st fun s2 hm => ?_)
    have q2 := kpt hm q
    have sub : ∀ p ∈ L, p ∈ ks := fun p hp => List.mem_of_mem_take (g.sub p hp)
    show wpAny _ A.in1 (ret Value.none) _ _ s2
    exact wpAny_pure (fin s2 L es ep t (hm.mono fun b hb => List.mem_cons_of_mem _ hb) (R1.kept (fun o e => hm.heap S o nw e) fun p hp => isT_keep (hk p (sub p hp)) q2) g q2)
  | succ k ih =>
    intro i s1 c1 c2 st q ⟨L, es, ep, t, R1, g⟩ fin
    have li : i < n := by omega
    refine codeAny_builtin F.entry_set_update_loop ?_
    rw [Around.under_plainId F.plain_set_update_loop _]
    show wpAny _ A.in1 (pyNext (.ref I) >>= _) _ _ s1
    refine wpAny_bind (W.item i s1 _ _ li st fun v s2 pv st2 hm => ?_)
    obtain ⟨p, p1, rfl⟩ := hv i v pv
    have q2 := kpt hm q
    have sub : ∀ p ∈ L, p ∈ ks := fun p hp => List.mem_of_mem_take (g.sub p hp)
    have R2 : SetW P w s2.heap S L es ep t := R1.kept (fun o e => hm.heap S o nw e) fun z hz => isT_keep (hk z (sub z hz)) q2
    have hx : IsT P w s2.heap p.2 p.1 := isT_keep (hk p (List.mem_of_getElem? p1)) q2
    have gl := g.len
    show wpAny _ A.in1 (holding [Value.ref p.1] (setAdd S (.ref p.1)) >>= _) _ _ s2
    refine wpAny_bind (wpAny_holding ?_)
    unfold setAdd
    refine wpAny_holding (wpAny_bind (wpAny_pyHash_tuple hu hx ?_))
    refine added (s := { s2 with toks := s2.toks + (p.2.length + 1) }) R2 hx hu (by omega) fun b h3 L3 es3 ep3 t3 sb R3 d1 d2 => ?_
    have q3 : ∀ b o, h0.get? b = some o → h3.get? b = some o := fun b o e => (sb.2 b (fun z => by rw [z, S0] at e; cases e)).trans (q2 b o e)
    refine wpAny_pure ⟨plainId_quiet F.plain_set_update_loop _, ih (i + 1) _ (by omega) li (W.frame _ s2 _ _ st2 (Nat.le_add_right _ _) fun c hc o e => ?_) q3 ⟨L3, es3, ep3, t3, R3, g.next p1 d1 d2⟩ fun s4 L4 es4 ep4 t4 m4 R4 g4 q4 => ?_⟩
    · rw [sb.2 c fun z : c = S => nS (z ▸ hc)]
      exact e
    · refine fin s4 L4 es4 ep4 t4 (Moved.trans W.gtrans ((hm.mono fun b hb => List.mem_cons_of_mem _ hb).then_heap (Nat.le_add_right _ _) fun c o hc e => ?_) m4) R4 g4 q4
      rw [sb.2 c fun z : c = S => hc (z ▸ List.mem_cons_self)]
      exact e
set_option maxHeartbeats 8000000 in
/-- set(xs) -/
theorem set_of_rows {l : Addr} {its : Array Value} (ks : List (Addr × List Int)) {Q : Value → Shared → Prop} (hh : A.handled = none) (hl : s.heap.IsList l its) (hi : its.toList = ks.map fun p => Value.ref p.1)
    (hk : ∀ p ∈ ks, IsT P w s.heap p.2 p.1) (few : ks.length ≤ 9500) (hu : A.units + 3 < cLine)
    (fin : ∀ (h' : Heap) (tk : Nat) L es ep t, SetW P w h' s.heap.objs.size L es ep t → Has2 ks ks.length L → (∀ b o, s.heap.get? b = some o → h'.get? b = some o) → Q (.ref s.heap.objs.size) { s with heap := h', toks := tk }) :
    wpAny (model P w) A (call (.type "set") [.ref l]) Q E s := by
  have sz : its.size = ks.length := (Array.length_toList (xs := its)).symm.trans ((congrArg List.length hi).trans (List.length_map _))
  obtain ⟨c, tl, hmro⟩ := F.called_set.mro
  have hmade := F.called_set.made; have hsub := F.called_set.sub
  refine wpAny_call (codeAny_of_tree ?_)
  show wpAny _ _ (callAny (.type "set") _) _ _ _
  refine wpAny_pure ⟨Code.quiet_builtin _ (by decide +kernel), codeAny_builtin F.entry_type_call ?_⟩
  rw [Around.under_plain (weight_type_call_type "set" [.ref l] []) rfl]
  have h1 := F.called_set.notType; have h2 := F.called_set.canCreate; have hct := F.typeCall_set_1 (.ref l)
  repeat (any_goals (first | assumption | wp_step))
  refine codeAny_mono (code_set_led1 (.ref l) (E := E) (Q₁ := fun obj s₁ => obj = .ref s.heap.objs.size ∧ s₁ = { s with heap := s.heap.push (emptySet w) }) ⟨rfl, rfl⟩) fun r s₁ hr => ?_
  cases r with
  | error e => exact hr
  | ok fl =>
    cases fl with
    | ret obj =>
      obtain ⟨rfl, rfl⟩ := hr
      have hS : (s.heap.push (emptySet w)).get? s.heap.objs.size = some (emptySet w) := Heap.get?_push_size _ rfl
      have hT : Shared.TypeIs { s with heap := s.heap.push (emptySet w) } (.ref s.heap.objs.size) "set" := ⟨_, hS, rfl⟩
      have hli := F.called_set.init.lookup; have hbi := F.called_set.init.bind (.ref s.heap.objs.size)
      repeat (any_goals (first | assumption | wp_step))
      refine codeAny_mono (codeAny_call_builtin (R := wants (fun r s₂ => r = .none ∧ ∃ h' tk L es ep t, s₂ = { s with heap := h', toks := tk } ∧ SetW P w h' s.heap.objs.size L es ep t ∧ Has2 ks ks.length L ∧
          (∀ b o, s.heap.get? b = some o → h'.get? b = some o)) E) F.called_set.init.plain F.entry_set_init (check_set_init_1 hT ?_)) fun r₂ s₂ hr₂ => ?_
      · obtain ⟨⟨ocl, odi, oda, osl⟩, g1, g2, gn, g3⟩ := hl
        obtain rfl : ocl = .type "list" := g2
        obtain rfl : oda = .seq its gn := g3
        have k1 : ∀ b o, s.heap.get? b = some o → (s.heap.push (emptySet w)).get? b = some o := fun b o e => Heap.get?_push_of_some _ e
        have hol' := k1 _ _ g1
        have hl1 : (s.heap.push (emptySet w)).IsList l its := ⟨_, hol', rfl, gn, rfl⟩
        have hsls := F.sub_list_set; have hslf := F.sub_list_frozenset
        have hne : (Value.type "list" == Value.type "dict") = false := by decide
        unfold Builtin.«set.__init__» noKeywords Builtin.Frozenset.updateFrom
        generalize hPI : pyIter = PI
        wp_walk
        subst hPI
        refine wpAny_pyIter_list hl1 (wpAny_bind (wpAny_runValue ?_))
        have lS : l < s.heap.objs.size := Heap.lt_size g1
        have zz : (s.heap.push (emptySet w)).objs.size = s.heap.objs.size + 1 := Heap.size_push ..
        have gone : ∀ b, s.heap.objs.size ≤ b → s.heap.get? b = none := fun b hb => by
          cases q : s.heap.get? b with
          | none => rfl
          | some o => exact (Nat.lt_irrefl _ (Nat.lt_of_lt_of_le (Heap.lt_size q) hb)).elim
        refine upd_loop ((Walks.list (show A.in1.in1.in1.handled = none by simp [hh]) _ l (by rw [zz]; exact Nat.ne_of_lt (Nat.lt_succ_of_lt lS)) its).toS) s.heap.objs.size (by rw [zz]; simp only [List.mem_cons, List.not_mem_nil, or_false, not_or]; exact ⟨Nat.ne_of_lt (Nat.lt_succ_self _), Nat.ne_of_gt lS⟩) ks sz few (fun i v hv => ?_) s.heap hk (gone _ (Nat.le_refl _))
          (fun b hb => gone b (by rw [List.mem_singleton.mp hb, zz]; omega)) hu (its.size - 0) 0 _ (by omega) (Nat.zero_le _) ⟨⟨_, Heap.get?_push_size _ rfl, rfl, rfl⟩, (hl1.push _)⟩ (fun b o e => Heap.get?_push_of_some _ (k1 b o e))
          ⟨[], #[], 0, _, setW_new (Heap.get?_push_of_some _ hS), ⟨(fun _ h => nomatch h), (fun _ h => by simp at h), Nat.le_refl _⟩⟩ ?fin
        · have q : its.toList[i]? = some v := Array.getElem?_toList.trans hv
          rw [hi, List.getElem?_map] at q
          obtain ⟨p, e1, e2⟩ := Option.map_eq_some_iff.mp q
          exact ⟨p, e1, e2.symm⟩
        case fin =>
          rintro ⟨h', g', d', tk', os'⟩ L es ep t hm R4 g4 kp
          obtain rfl : g' = s.gens := hm.gens
          obtain rfl : d' = s.drawn := hm.drawn
          obtain rfl : os' = s.os := hm.os
          refine wpAny_pure ?_
          show wpAny _ _ (ret Value.none) _ _ _
          rw [sz] at g4
          exact wpAny_pure ⟨rfl, h', tk', L, es, ep, t, rfl, R4, g4, kp⟩
      · cases r₂ with
        | error e => exact hr₂
        | ok fl₂ =>
          cases fl₂ with
          | ret r =>
            obtain ⟨rfl, h', tk, L, es, ep, t, rfl, R4, g4, kp⟩ := hr₂
            repeat (any_goals (first | assumption | wp_step))
            exact fin _ _ _ _ _ _ R4 g4 kp
          | _ => exact hr₂.elim
    | _ => exact hr.elim
end
end CG
namespace CG
open PySem PySem.Spec PyProof.Rows L2
section
variable {P : Program} {w : World} {A : Around} {E : Value → Shared → Prop} {s : Shared} {a : Addr} {es : Array (Int × Value)} {ep : Nat} {t : SetTable}
/-- iter(set): the members in the order that the set has, or that is drawn -/
theorem big_iter {Q : Value → Shared → Prop} (ha : SetAt s.heap a es ep t) (fit : t.fits es.size = true) (small : es.size ≤ sizeLine) (ris : Ris t.place.toList)
    (led : w.params.followText "set-order" = true ∨ t.led = true) (go : ∀ s2 I, SetIt P w s a es s2 I → Q (.ref I) s2) : wpAny (model P w) A (pyIter (.ref a)) Q E s := by
  have ⟨ob, hob, hcl, hdt⟩ := ha
  have aS : a < s.heap.objs.size := Heap.lt_size hob
  have ty : s.TypeIs (.ref a) "set" := ⟨ob, hob, hcl⟩
  apply wpAny_pyIter_slot ty F.slot_set_iter
  refine wpAny_call_entry F.slot_set_iter ty entry_s_iter ?_ (F.args_set_iter_1 _)
  unfold Builtin.«frozenset.__iter__»
  refine wpAny_bind (m := Builtin.Frozenset.slot0 "__iter__" _) (wpAny_of_eq (a := a) (by rfl) (wpAny_bind (m := Builtin.Frozenset.sizeOf a) ?_))
  unfold Builtin.Frozenset.sizeOf
  refine wpAny_bind (wpAny_setEntries_of hob hdt fit (wpAny_pure ?_))
  first
    | refine wpAny_bind (setDrawn_at ha fit ?_)
    | refine wpAny_bind (wpAny_bind (setDrawn_at ha fit ?_))
  have old : ∀ (n : Obj) (b : Addr) (u : Obj), s.heap.get? b = some u → (s.heap.push n).get? b = some u := fun n b u e => Heap.get?_push_of_some n e
  have pair : ∀ b ∈ [s.heap.objs.size, a], b = a ∨ s.heap.objs.size ≤ b := fun b hb => by
    rcases List.mem_cons.mp hb with e | e
    · exact .inr (by rw [e]; exact Nat.le_refl _)
    · exact .inl (List.mem_singleton.mp e)
  by_cases txt : w.params.followText "set-order" = true
  · rw [txt]
    refine wp_if_neg (by simp) ?_
    first
      | refine wpAny_bind (wpAny_pure ?_)
      | refine wpAny_pure ?_
    refine wpAny_bind (wpAny_setEpoch_of hob hdt fit (wpAny_bind (wpAny_newObj_type (wpAny_pure ⟨_, rfl, "set_iterator", _, ⟨_, Heap.get?_push_size _ rfl, rfl⟩, slot_si_next.lookup, ?_⟩))))
    have W := fun (B : Around) (hB : B.handled = none) => walks_text (P := P) (ep := ep) hB (Nat.ne_of_lt aS) fit txt
    refine go _ _ (SetIt.of W (by rw [List.length_map, Array.length_toList]) (old _) rfl rfl rfl (Nat.le_refl _) pair ((pick_perm (w.params.setOrder a ep) es).map _) (fun j v q => ?_) ⟨⟨_, Heap.get?_push_size _ rfl, rfl, rfl⟩, ha.at (old _ a)⟩)
    rw [← q, List.getElem?_map, Array.getElem?_toList]
  · have txt' : w.params.followText "set-order" = false := by
      cases c : w.params.followText "set-order" with
      | true => exact absurd c txt
      | false => rfl
    have ld := led.resolve_left txt
    rw [txt']
    by_cases dr : (!t.plain && decide (es.size > 1)) = true
    · rw [dr]
      refine wp_if_pos rfl (wpAny_bind (drawOrder_at _ _ _ _ (Nat.le_of_eq List.length_range) fun ys d pm => ?_))
      have nys : ys.length = es.size := pm.length_eq.trans List.length_range
      have lys : (ys.map fun k : Nat => rawInt (k : Int)).length ≤ sizeLine := by
        rw [List.length_map, nys]
        exact small
      have inn : ∀ j ∈ ys, j < es.size := fun j hj => List.mem_range.mp (pm.mem_iff.mp hj)
      first
        | refine wpAny_bind (wpAny_newTuple ?_ lys)
        | refine wpAny_newTuple ?_ lys
      generalize hT : ({ cls := .type "tuple", data := .seq (ys.map fun k : Nat => rawInt (k : Int)).toArray } : Obj) = tp
      have sz : (s.heap.push tp).objs.size = s.heap.objs.size + 1 := size_push' _ _
      have atT : (s.heap.push tp).get? s.heap.objs.size = some tp := Heap.get?_push_size _ (by rw [← hT] <;> rfl)
      refine wpAny_bind (wpAny_setEpoch_of (old tp a ob hob) hdt fit (wpAny_bind (wpAny_newObj_type (wpAny_pure ⟨_, rfl, "set_iterator", _, ⟨_, Heap.get?_push_size _ rfl, rfl⟩, slot_si_next.lookup, ?_⟩))))
      have W := fun (B : Around) (hB : B.handled = none) => walks_drawn (P := P) (w := w) (ep := ep) (t := t) (a := a) (p := s.heap.objs.size) (I := (s.heap.push tp).objs.size) (es := es) hB (Nat.ne_of_lt (by rw [sz]; exact Nat.lt_succ_of_lt aS)) (Nat.ne_of_lt (by rw [sz]; exact Nat.lt_succ_self _)) fit inn
      have order : (ys.map fun q => ((es[q]?).map (·.2)).getD Value.none).Perm (es.toList.map (·.2)) := range_map es ▸ pm.map _
      refine go _ _ (SetIt.of W (List.length_map _) (fun b u e => Heap.get?_push_of_some _ (old tp b u e)) rfl rfl rfl (by rw [sz]; omega) (fun b hb => ?_) order (fun j v q => ?_) ⟨⟨_, Heap.get?_push_size _ rfl, rfl, rfl⟩, ha.at fun u e => Heap.get?_push_of_some _ (old tp a u e), by rw [hT]; exact Heap.get?_push_of_some _ atT⟩)
      · simp only [List.mem_cons, List.not_mem_nil, or_false] at hb
        rcases hb with e | e | e
        · exact .inr (by rw [e, sz]; omega)
        · exact .inl e
        · exact .inr (by rw [e]; exact Nat.le_refl _)
      · rw [List.getElem?_map]
        cases c : ys[j]? with
        | none =>
          rw [c] at q
          cases q
        | some k =>
          rw [c] at q
          show some (((es[k]?).map (·.2)).getD Value.none) = some v
          have z : (es[k]?).map (·.2) = some v := q
          rw [z] <;> rfl
    · have dr' : (!t.plain && decide (es.size > 1)) = false := by
        cases c : (!t.plain && decide (es.size > 1)) with
        | true => exact absurd c dr
        | false => rfl
      rw [dr']
      refine wp_if_neg (by simp) ?_
      first
        | refine wpAny_bind (wpAny_pure ?_)
        | refine wpAny_pure ?_
      refine wpAny_bind (wpAny_setEpoch_of hob hdt fit (wpAny_bind (wpAny_newObj_type (wpAny_pure ⟨_, rfl, "set_iterator", _, ⟨_, Heap.get?_push_size _ rfl, rfl⟩, slot_si_next.lookup, ?_⟩))))
      have W := fun (B : Around) (hB : B.handled = none) => walks_led (P := P) (ep := ep) hB (Nat.ne_of_lt aS) fit ris txt' dr' ld
      refine go _ _ (SetIt.of W (by rw [List.length_map, Array.length_toList]) (old _) rfl rfl rfl (Nat.le_refl _) pair (List.Perm.refl _) (fun j v q => ?_) ⟨⟨_, Heap.get?_push_size _ rfl, rfl, rfl⟩, ha.at (old _ a)⟩)
      rw [← q, List.getElem?_map, Array.getElem?_toList]
/-- the members of a set, put into a list of their own -/
theorem big_collect {Q : List Value → Shared → Prop} (hn : A.handled = none) (ha : SetAt s.heap a es ep t) (fit : t.fits es.size = true) (small : es.size ≤ sizeLine) (ris : Ris t.place.toList)
    (led : w.params.followText "set-order" = true ∨ t.led = true)
    (go : ∀ s2 out, (∀ b o, s.heap.get? b = some o → s2.heap.get? b = some o) → s.heap.objs.size ≤ s2.heap.objs.size → s2.gens = s.gens → s2.os = s.os → out.Perm (es.toList.map (·.2)) → Q out s2) :
    wpAny (model P w) A (collect (.ref a)) Q E s := by
  have ⟨ob, hob, hcl, _⟩ := ha
  have aS : a < s.heap.objs.size := Heap.lt_size hob
  obtain ⟨L, eL⟩ : ∃ L, L = s.heap.objs.size := ⟨_, rfl⟩
  have aL : L ≠ a := fun z => Nat.lt_irrefl _ (by rw [← z, eL] at aS; exact aS)
  unfold collect
  refine wpAny_bind (wpAny_runValue (codeAny_builtin F.entry_proto_collect ?_))
  rw [Around.under_plainId F.plain_proto_collect _]
  show wpAny _ A.in1 (newList [] >>= fun l => again (.builtin "list.__iadd__" ⟨[l, .ref a], []⟩)) _ _ s
  refine wpAny_bind (wpAny_newObj_type (wpAny_pure ⟨plainId_quiet F.plain_list_iadd _, codeAny_builtin F.entry_list_iadd ?_⟩))
  rw [Around.under_plainId F.plain_list_iadd _]
  generalize hE : ({ cls := .type "list", data := .seq ([] : List Value).toArray } : Obj) = e0
  have up : ∀ b u, s.heap.get? b = some u → (s.heap.push e0).get? b = some u := fun b u e => Heap.get?_push_of_some e0 e
  have atL : (s.heap.push e0).get? L = some e0 := by
    rw [eL]
    exact Heap.get?_push_size _ (by rw [← hE] <;> rfl)
  have one : (s.heap.push e0).objs.size = L + 1 := by rw [eL]; exact size_push' _ _
  rw [← eL]
  show wpAny _ A.in1 (Builtin.List.listExtendWith (.ref L) (.ref a) (.ref L)) _ _ _
  unfold Builtin.List.listExtendWith
  refine wpAny_bind (wpAny_typeOf (T := "set") ⟨ob, up a ob hob, hcl⟩ ?_)
  simp only [show Builtin.List.listSameRef (.ref L) (.ref a) = false by simp [Builtin.List.listSameRef, aL], show (Value.type "set" == Value.type "list") = false by decide, show (Value.type "set" == Value.type "tuple") = false by decide, Bool.or_false, Bool.false_eq_true, if_false]
  refine wpAny_bind (big_iter (s := { s with heap := s.heap.push e0 }) (ha.at (up a)) fit small ris led fun s2 I it => ?_)
  obtain ⟨fp, St, out, Pv, k2, g2, o2, t2, hI, far, pm, W, hP, st⟩ := it
  have LI : L + 1 ≤ I := one ▸ hI
  have Lf : L ∉ fp := fun hm => by
    rcases far _ hm with z | z
    · exact aL z
    · have z2 : L + 1 ≤ L := one ▸ z
      exact Nat.not_succ_le_self _ z2
  have ty : s2.TypeIs (.ref a) "set" := ⟨ob, k2 a ob (up a ob hob), hcl⟩
  refine wpAny_bind (wpAny_holding ?_)
  unfold Builtin.List.listLengthHint
  refine wpAny_bind (wpAny_specialOf ty F.slot_set_len.lookup ?_)
  (generalize hid : ("set.__len__" : String) = id0; (fail_if_success (clear hid id0)); wp_delta; rw [show splitId id0 = some ("set", "__len__") from by subst hid; decide +kernel]; subst hid)
  refine wpAny_bind (wpAny_isInstance (b := true) ty sub_set_self ?_)
  show wpAny _ A.in1 (typeOf (.ref a) >>= _) _ _ _
  refine wpAny_bind (wpAny_typeOf ty (wpAny_pure ?_))
  show wpAny _ A.in1 (rule "list.extend.makes-room" >>= fun _ => Builtin.List.listTouch (.ref L) >>= fun _ => again (.builtin "list.extend.loop" ⟨[.ref L, .ref I, .ref L], []⟩)) _ _ _
  refine wpAny_bind (wpAny_rule (wpAny_bind ?_))
  show wpAny _ A.in1 (updateSeq L (·.push .none) >>= fun _ => updateSeq L (·.pop)) _ _ _
  have a2 := k2 L e0 atL
  rw [← hE] at a2
  refine wpAny_bind (wpAny_updateSeq a2 rfl ?_)
  have a3 := Heap.get?_update_self (Obj.mapSeq (·.push Value.none)) a2 rfl
  refine wpAny_updateSeq a3 rfl ?_
  have a4 := Heap.get?_update_self (Obj.mapSeq (·.pop)) a3 rfl
  generalize hG : (s2.heap.update L (Obj.mapSeq (·.push Value.none))).update L (Obj.mapSeq (·.pop)) = G at a4 ⊢
  have side : ∀ b u, b ≠ L → s2.heap.get? b = some u → G.get? b = some u := fun b u nb e => by
    rw [← hG, Heap.get?_update_other _ _ (Ne.symm nb), Heap.get?_update_other _ _ (Ne.symm nb)]
    exact e
  have cnt : out.length ≤ sizeLine := by
    rw [pm.length_eq, List.length_map, Array.length_toList]
    exact small
  have V := W A.in1 hn
  have st2 : St 0 G := V.frame 0 _ _ st fun b hb u e => side b u (fun z => Lf (z ▸ hb)) e
  refine wpAny_pure ⟨plainId_quiet F.plain_extend_loop _, codeAny_extend_loopS V.toS cnt _ Lf _ out.length 0 _ _ _ rfl (Nat.zero_le _) st2 a4 (ItemsOf.nil Pv) fun s3 acc c3 hm at3 items => ?_⟩
  show wpAny _ A (load L >>= _) _ _ s3
  refine wpAny_bind (wpAny_load at3 (wpAny_pure ?_))
  show Q acc.toList s3
  rw [items_out items hP]
  have L3 : L < s3.heap.objs.size := Heap.lt_size at3
  refine go s3 out (fun b u e => ?_) (eL ▸ Nat.le_of_lt L3) (hm.gens.trans g2) (hm.os.trans o2) pm
  have bL : b < L := by rw [eL]; exact Heap.lt_size e
  refine hm.heap b u (fun z => ?_) (side b u (Nat.ne_of_lt bL) (k2 b u (up b u e)))
  simp only [List.mem_cons, List.not_mem_nil, or_false] at z
  rcases z with z | z
  all_goals first
    | exact absurd bL (by rw [z]; exact Nat.lt_irrefl _)
    | exact absurd bL (by rw [z]; exact Nat.not_lt_of_le (Nat.le_of_succ_le LI))
end
end CG
namespace CG
open PySem PySem.Spec PyProof.Rows L2
theorem perm_map_inv {α β : Type} {f : α → β} {x y : List β} (h : x.Perm y) : ∀ L : List α, y = L.map f → ∃ L1 : List α, x = L1.map f ∧ L1.Perm L := by
  induction h with
  | nil =>
    intro L e
    obtain rfl : L = [] := List.map_eq_nil_iff.mp e.symm
    exact ⟨[], rfl, .refl _⟩
  | cons z _ ih =>
    intro L e
    obtain ⟨b, L0, rfl, rfl, e3⟩ := List.map_eq_cons_iff.mp e.symm
    obtain ⟨L1, rfl, p⟩ := ih L0 e3.symm
    exact ⟨b :: L1, rfl, p.cons b⟩
  | swap u v l =>
    intro L e
    obtain ⟨b, L0, rfl, rfl, e3⟩ := List.map_eq_cons_iff.mp e.symm
    obtain ⟨c, L2, rfl, rfl, rfl⟩ := List.map_eq_cons_iff.mp e3
    exact ⟨c :: b :: L2, rfl, .swap b c L2⟩
  | trans _ _ i1 i2 =>
    intro L e
    obtain ⟨L1, e1, p1⟩ := i2 L e
    obtain ⟨L2, e2, p2⟩ := i1 L1 e1
    exact ⟨L2, e2, p2.trans p1⟩
/-- each row once -/
noncomputable def nubR : List (List Int) → List (List Int)
  | [] => []
  | r :: rs => if r ∈ nubR rs then nubR rs else r :: nubR rs
theorem mem_nubR {x : List Int} : ∀ {rs : List (List Int)}, x ∈ nubR rs ↔ x ∈ rs
  | [] => Iff.rfl
  | r :: rs => by
    have ih := mem_nubR (x := x) (rs := rs)
    unfold nubR
    split
    · rename_i c
      rw [ih, List.mem_cons]
      exact ⟨.inr, fun h => h.elim (fun e => e ▸ mem_nubR.mp c) id⟩
    · rw [List.mem_cons, List.mem_cons, ih]
theorem nubR_nodup : ∀ rs : List (List Int), (nubR rs).Nodup
  | [] => .nil
  | r :: rs => by
    unfold nubR
    split
    · exact nubR_nodup rs
    · rename_i c
      exact List.nodup_cons.mpr ⟨c, nubR_nodup rs⟩
theorem nubR_le : ∀ rs : List (List Int), (nubR rs).length ≤ rs.length
  | [] => Nat.le_refl _
  | r :: rs => by
    have := nubR_le rs
    unfold nubR
    split
    · exact Nat.le_succ_of_le this
    · exact Nat.succ_le_succ this
/-- the rows in order, each once -/
noncomputable def ssR (rs : List (List Int)) : List (List Int) := sortR (nubR rs)
theorem mem_ssR {x : List Int} {rs : List (List Int)} : x ∈ ssR rs ↔ x ∈ rs := (sortR_perm _).mem_iff.trans mem_nubR
theorem ssR_le {rs : List (List Int)} : (ssR rs).length ≤ rs.length := by
  rw [show (ssR rs).length = (nubR rs).length from (sortR_perm _).length_eq]
  exact nubR_le rs
section
variable {P : Program} {w : World} {A : Around} {E : Value → Shared → Prop} {s : Shared}
theorem reads_ints {h : Heap} {k : List Int} {us : List Value} (r : ItemsAre (intKind P w) k us) : ReadsAll h us (k.map PyData.int) [] := by
  induction r with
  | nil => exact .nil
  | @cons k0 v ks vs h1 _ ih =>
    obtain ⟨t, rfl⟩ := Value.isInt_shape h1
    exact .cons (.int k0 t) ih
theorem reads_row {h : Heap} {k : List Int} {b : Addr} (x : IsT P w h k b) : Reads h (.ref b) (.tuple (k.map PyData.int)) [] := by
  obtain ⟨o, items, n, h1, h2, h3, h4⟩ := x
  exact .tuple h1 h2 h3 (reads_ints h4)
/-- sorted(a set of rows) -/
theorem sorted_rows {a : Addr} {L : List (Addr × List Int)} {es : Array (Int × Value)} {ep : Nat} {t : SetTable} {Q : Value → Shared → Prop} (R : SetW P w s.heap a L es ep t) (hh : A.handled = none) (few : L.length ≤ 9500) (ne : ∀ p ∈ L, p.2 ≠ []) (hu : A.units + 8 < cLine)
    (hQ : ∀ s' p (out : List Value) (c : Nat) (L' : List (Addr × List Int)), (∀ b o, s.heap.get? b = some o → s'.heap.get? b = some o) → s'.gens = s.gens → s'.os = s.os → s.heap.objs.size ≤ p →
      s'.heap.get? p = some (seqObj "list" out.toArray c) → out = L'.map (fun q => Value.ref q.1) → L'.Perm L → L'.map (·.2) = sortR (L.map (·.2)) → Q (.ref p) s') :
    wpAny (model P w) A (call (.builtin "sorted") [.ref a]) Q E s := by
  obtain ⟨o, o1, o2, o3⟩ := R.obj
  have sz := rows_size R.its
  refine Calls.call_function_entry kind_sorted plain_sorted entry_sorted (args_sorted1 _) ?_
  unfold Builtin.«sorted»
  refine wpAny_bind (m := checkCount "sorted" 1 1 _) (wpAny_pure ?_)
  refine wpAny_bind (big_collect (A := A.in1) hh ⟨o, o1, o2.1, o3⟩ R.fit (by rw [sizeLine_eq]; omega) R.tbl.up R.ord fun s1 vs k1 z1 g1 os1 pm => ?_)
  rw [show es.toList.map (·.2) = L.map fun q => Value.ref q.1 by rw [R.its]; unfold rowsOf; rw [List.map_map]; rfl] at pm
  obtain ⟨L1, rfl, p1⟩ := perm_map_inv pm L rfl
  have l1 : L1.length ≤ 9500 := by rw [p1.length_eq]; exact few
  refine wpAny_bind (wpAny_newList ?_ (by rw [List.length_map, sizeLine_eq]; omega))
  have hN : (s1.heap.push (seqObj "list" (L1.map fun q => Value.ref q.1).toArray 0)).get? s1.heap.objs.size = some (seqObj "list" (L1.map fun q => Value.ref q.1).toArray 0) := Heap.get?_push_size _ rfl
  have al : ∀ q ∈ L1, IsT P w (s1.heap.push (seqObj "list" (L1.map fun q => Value.ref q.1).toArray 0)) q.2 q.1 := fun q hq => isT_keep (R.all q (p1.mem_iff.mp hq)) fun b u e => Heap.get?_push_of_some _ (k1 b u e)
  have each : ∀ l : List (Addr × List Int), (∀ q ∈ l, q ∈ L1) → PySem.W.EachIs (fun v (q : Addr × List Int) => ∃ as, Reads (s1.heap.push (seqObj "list" (L1.map fun q => Value.ref q.1).toArray 0)) v (.tuple (q.2.map PyData.int)) as ∧ s1.heap.objs.size ∉ as) (l.map fun q => Value.ref q.1) l := by
    intro l
    induction l with
    | nil => exact fun _ => .nil
    | cons q l ih => exact fun h => .cons ⟨[], reads_row (al q (h q List.mem_cons_self)), by simp⟩ (ih fun r hr => h r (List.mem_cons_of_mem _ hr))
  have each0 : ∀ l : List (Addr × List Int), PySem.W.EachIs (fun v (q : Addr × List Int) => v = Value.ref q.1) (l.map fun q => Value.ref q.1) l := by
    intro l
    induction l with
    | nil => exact .nil
    | cons q l ih => exact .cons rfl ih
  refine wpAny_bind (wpAny_holding (PySem.W.list_sort_data (s := { s1 with heap := s1.heap.push (seqObj "list" (L1.map fun q => Value.ref q.1).toArray 0) }) (R := fun v (q : Addr × List Int) => v = Value.ref q.1) (enc := fun q : Addr × List Int => .tuple (q.2.map PyData.int)) (bs := L1) hN (each0 L1) (each L1 fun _ h => h)
    (PySem.W.AllAlike.of fun b b' => by simp [PySem.W.alike, PySem.W.alike_ints]) (.inl fun d hd => ?_) (by rw [sizeLine_eq]; omega) (fun b _ => ?_) fun out h1 h2 => ?_))
  · obtain ⟨b, hb, rfl⟩ := List.mem_map.mp hd
    have hn := ne b (p1.mem_iff.mp hb)
    cases e : b.2 with
    | nil => exact absurd e hn
    | cons x r => exact ⟨.int x, r.map .int, rfl⟩
  · show A.in1.units + 1 + (PyData.depthAll (b.2.map PyData.int) + 1) < cLine
    rw [PySem.W.depth_ints]
    show A.units + 1 + 1 + (0 + 1) < cLine
    omega
  · rw [dataLe_tups (fun b : Addr × List Int => b.2)] at h2
    have eo : ∀ {us : List Value} {l : List (Addr × List Int)}, PySem.W.EachIs (fun v (q : Addr × List Int) => v = Value.ref q.1) us l → us = l.map fun q => Value.ref q.1 := by
      intro us l h
      induction h with
      | nil => rfl
      | cons e _ ih => rw [e, ih]; rfl
    obtain ⟨c, hc⟩ := sortedHeap_at (vs := L1.map fun q => Value.ref q.1) (out := out.toArray) hN
    refine wpAny_pure ⟨_, rfl, hQ _ s1.heap.objs.size out c (L1.mergeSort fun x y => decide (x.2 ≤ y.2)) (fun b u e => ?_) g1 os1 z1 hc (eo h2) ((List.mergeSort_perm _ _).trans p1) ?_⟩
    · have q := k1 b u e
      have lt := Heap.lt_size q
      show (sortedHeap (s1.heap.push (seqObj "list" (L1.map fun q => Value.ref q.1).toArray 0)) s1.heap.objs.size (L1.map fun q => Value.ref q.1) out.toArray).get? b = some u
      rw [sortedHeap_old (Nat.ne_of_lt lt) (by rw [size_push']; exact Nat.lt_succ_of_lt lt)]
      exact Heap.get?_push_of_some _ q
    · have e : sortR (L1.map (·.2)) = (L1.mergeSort fun x y => decide (x.2 ≤ y.2)).map (·.2) := (List.map_mergeSort (s := fun x y : List Int => decide (x ≤ y)) (f := Prod.snd) fun _ _ _ _ => rfl).symm
      rw [← e]
      exact sortR_eq (p1.map _)
end
noncomputable def tSortSet (K : PySem.W.Frag) (ta : TE) : TE := fun σ H Q => ta σ H fun x H1 => ∃ (l : Addr) (bs : List (V × List Int)), x = .ref l ∧ SqL K H1 l (bs.map Prod.fst) ∧ (∀ b ∈ bs, Dp K H1 b.1 (.tuple (b.2.map PyData.int))) ∧ (∀ b ∈ bs, b.2 ≠ []) ∧ bs.length ≤ 9500 ∧
  ∀ (p : Addr) (ys : List (V × List Int)), H1 p = none → (∀ y ∈ ys, y ∈ bs) → ys.map Prod.snd = ssR (bs.map Prod.snd) → Q (.ref p) (upd H1 p (.lst (ys.map Prod.fst)))
theorem dp_addr {K : PySem.W.Frag} {H : Hp} {v : V} {k : List Int} (h : Dp K H v (.tuple (k.map PyData.int))) : ∃ a, v = .ref a ∧ SqT K H a (k.map V.int) := by
  cases h with
  | tup s t =>
    refine ⟨_, rfl, ?_⟩
    have e : ∀ {xs : List V} {k : List Int}, DpAll K H xs (k.map PyData.int) → xs = k.map V.int := by
      intro xs k
      induction k generalizing xs with
      | nil => intro h; cases h; rfl
      | cons i k ih =>
        intro h
        cases h with
        | cons h1 h2 =>
          cases h1
          rw [ih h2]
          rfl
    rw [← e t]
    exact s
theorem pe_sortSet {X : Cx} {a : Expr} {ta : TE} {p p2 q pos : Pos} (hu : X.A.units + 64 < cLine) (hg : Gl X "sorted") (hm : X.mg "sorted" = none) (hg2 : Gl X "set") (hm2 : X.mg "set" = none) (ha : PE X a ta) (hc : X.calm = true := by rfl)
    (na : starEach [a] X.env = (false, eval a X.env) :: starEach [] X.env := by rfl) : PE X (.Call (.Name "sorted" p) [.Call (.Name "set" p2) [a] [] q] [] pos) (tSortSet X.K ta) := by
  refine ⟨fun pins s σ H Q I h => ?_⟩
  refine Call_ (ld_blt I hg hm (show bootBuiltins "sorted" = some (.builtin "sorted") by decide +kernel) ?_)
  refine PyProof.Rows.callWith_builtin1 (PyProof.Rows.args_cons ?_ rfl) rfl rfl
  refine Call_ (ld_blt I hg2 hm2 PyProof.Rows.boot_set ?_)
  refine PyProof.Rows.callWith_type1 (PyProof.Rows.args_cons (thn (ha.run pins s σ H _ I h) fun v s1 ⟨x, H1, I1, r1, q1⟩ => PyProof.Rows.args_nil ?_) na) na rfl
  obtain ⟨l, bs, rfl, hs, hd, hne, few, q1⟩ := q1
  cases r1
  obtain ⟨its, rv, pl, _⟩ := I1.list hs
  have ks : ∀ b ∈ bs, ∃ a, b.1 = V.ref a ∧ SqT X.K H1 a (b.2.map V.int) := fun b hb => dp_addr (hd b hb)
  have mk : ∀ l : List (V × List Int), (∀ b ∈ l, b ∈ bs) → ∃ k2 : List (Addr × List Int), l = k2.map (fun q => (V.ref q.1, q.2)) ∧ ∀ q ∈ k2, SqT X.K H1 q.1 (q.2.map V.int) := by
    intro l
    induction l with
    | nil => exact fun _ => ⟨[], rfl, fun _ h => nomatch h⟩
    | cons b l ih =>
      intro h
      obtain ⟨a, e, sa⟩ := ks b (h b List.mem_cons_self)
      obtain ⟨k2, e2, s2⟩ := ih fun c hc => h c (List.mem_cons_of_mem _ hc)
      refine ⟨(a, b.2) :: k2, by rw [List.map_cons, ← e2, ← e], fun q hq => ?_⟩
      rcases List.mem_cons.mp hq with rfl | hq
      · exact sa
      · exact s2 q hq
  obtain ⟨k2, rfl, sk⟩ := mk bs fun _ h => h
  rw [List.length_map] at few
  rw [List.map_map] at rv
  have T1 : ∀ q ∈ k2, IsT X.prog X.w s1.heap q.2 q.1 := fun q hq => I1.isT (sk q hq)
  refine set_of_rows (P := X.prog) (w := X.w) k2 (I1.ok.hd hc) pl.isList (by simpa using refs_of_vals (ks := k2) rv) T1 few (by omega) fun h' tk L es ep t R g kp => ?_
  refine PyProof.Rows.args_nil ?_
  have I2 : Inv X pins σ H1 { s1 with heap := h', toks := tk } := I1.kept kp
  have sub : ∀ p ∈ L, p ∈ k2 := fun p hp => List.mem_of_mem_take (g.sub p hp)
  refine sorted_rows (s := { s1 with heap := h', toks := tk }) R (I2.ok.hd hc) (Nat.le_trans g.len few) (fun p hp => hne _ (List.mem_map.mpr ⟨p, sub p hp, rfl⟩)) (by omega) fun s3 p out c L' k3 g3 os3 hp hat ho pm so => ?_
  have hn : H1 p = none := I2.hok.fresh hp
  have hv : Vals (L'.map fun q => V.ref q.1) out := by rw [ho]; exact vals_of_refs L'
  have J := L2.Inv.call' (s' := s3) (H' := upd H1 p (.lst (L'.map fun q => V.ref q.1))) (ch := []) I2 os3 (Un.laid k3 hp hn) (I2.hok.laid k3 hp ⟨by rw [List.length_map, pm.length_eq, sizeLine_eq]; have := g.len; omega, out, c, hv, hat⟩) (by rw [g3]; exact I2.bare) (fun _ z => nomatch z)
  refine ⟨.ref p, _, J, rfl, ?_⟩
  have fin := q1 p (L'.map fun q => (V.ref q.1, q.2)) hn (fun y hy => ?_) ?_
  · rw [List.map_map] at fin
    exact fin
  · obtain ⟨q, hq, rfl⟩ := List.mem_map.mp hy
    exact List.mem_map.mpr ⟨q, sub q (pm.mem_iff.mp hq), rfl⟩
  · rw [List.map_map, List.map_map]
    refine Eq.trans so (sortR_eq ((List.perm_ext_iff_of_nodup R.dis (nubR_nodup _)).mpr fun x => ?_))
    rw [mem_nubR]
    constructor
    · intro hx
      obtain ⟨q, hq, rfl⟩ := List.mem_map.mp hx
      exact List.mem_map.mpr ⟨q, sub q hq, rfl⟩
    · intro hx
      obtain ⟨q, hq, rfl⟩ := List.mem_map.mp hx
      exact g.all q (by rw [List.take_length]; exact hq)
section
variable {K : PySem.W.Frag}
/-- sorted(set(x)), x a list of rows -/
noncomputable def AE.sortSet (a : AE K) : AE K := ⟨tSortSet K a.te, fun e t k => a.wp e t fun d t1 => ∃ rs : List (List Int), d = .list (rs.map rowT) ∧ (∀ r ∈ rs, r ≠ []) ∧ rs.length ≤ 9500 ∧ k (.list ((ssR rs).map rowT)) t1, fun {m B0 B e σ H t k} r h Q q =>
  a.ok r h _ fun v d H1 t1 x1 k1 h1 r1 => by
    obtain ⟨rs, rfl, hne, hl, hk⟩ := h1
    obtain ⟨a, xs, rfl, na, s, t⟩ := rp_lst.mp r1
    obtain ⟨bs, rfl, rfl, hb⟩ := rows_of t
    refine ⟨a, bs, rfl, SqL.of s, fun b h => dp_row (hb b h), fun b h => hne _ (List.mem_map.mpr ⟨b, h, rfl⟩), by rw [List.length_map] at hl; exact hl, fun p ys np hy he => ?_⟩
    have al := (r.up x1 k1).al
    refine q _ _ _ t1 (x1.trans (m.xs k1 (same_new np))) (m.same k1 (same_new np)) hk (rp_lst.mpr ⟨p, _, rfl, al.new np, upd_same, ?_⟩)
    rw [← he]
    exact rpa_map fun b hb' => (hb b (hy b hb')).up (Xt.of al (same_new np))⟩
theorem w_sortSet {a : AE K} {e : _} {t : _} {k : _} : (AE.sortSet a).wp e t k = a.wp e t fun d t1 => ∃ rs : List (List Int), d = .list (rs.map rowT) ∧ (∀ r ∈ rs, r ≠ []) ∧ rs.length ≤ 9500 ∧ k (.list ((ssR rs).map rowT)) t1 := rfl
theorem t_sortSet {a : AE K} : (AE.sortSet a).te = tSortSet K a.te := rfl
end
end CG
namespace CG
open PySem PySem.Spec PyProof.Rows L2
theorem walkH {l : PySem.W.OpenLaw} {n k : Nat} {q : Program} {lo : List Str} {XP : (Str → Option Value) → Heap → Prop} {YP : World → Heap → Prop}
    {d : DefRec} {cx : CXT} {x : Str}
    (hn : l.most = some n) (hn2 : n ≤ sizeLine) (hdf : d.params.defaults = []) (hr : Room k callerA)
    (F : ∀ (w : World) (mg : Str → Option Value) (fa : Addr) (h : Heap), YP w h → h.Ns mainGlobals mg → mg d.name = some (.ref fa) →
      ∃ (K : PySem.W.Frag) (fd : FuncData) (sp : Sp), K.In h ∧ (∀ (s : Shared) (u : Value), BindsTo s fd ⟨[u], []⟩ [(x, u)]) ∧
        (∀ (H : Hp) (a : Addr) (ns : List Int), ns.length ≤ n → Only H → SqL K H a (ns.map V.int) → sp [.ref a] H (fun v _ => v = .bl true) fun _ _ _ => False) ∧
        ∀ ba : Heap, K.In ba → ba.Ns mainGlobals mg → FnG l.prog w K mg ba cx k fa fd [x] sp)
    (hCX : ∀ (H : Hp) (s : Shared) (e : Value) (s' : Shared), cx [] H s (fun _ _ _ => False) e s' → False) :
    PySem.W.WalkO q lo XP YP l.row.toRowW d [] (fun f vs => PySem.call f vs) := by
  refine Att.attach_call hn hdf fun w s0 s1 mg mb fa o pm cd doc a vs ns G Y ho hd hcd hmg hobj hints hlen hg => ?_
  obtain ⟨K, fd, sp, kin, hb, hsp, hF⟩ := F w mg fa _ Y G.T.g hmg
  exact lawG kin G.T.g G.T.b G.T.builtins G.T.nolimit hg hobj hints (Nat.le_trans hlen hn2) hr hF hb (fun H hO hS => hsp H a ns hlen hO hS) fun H e s' => hCX H s1 e s'
theorem hObs_eq {n : Nat} {fa : List (PySem.W.Frag → Bool)} {fn : List He.FnD} (s : PySem.W.SharedT) : hObsG n fa fn (HandSHeadRun.getT s) = (hHook n fa fn).obs s.abs := by
  have e : HandSHeadRun.getT s = s.abs.heap.get? := funext (HandSHeadRun.getT_eq s)
  rw [e] <;> rfl
section
variable {fa : List (PySem.W.Frag → Bool)} {fn : List He.FnD} {K : PySem.W.Frag}
theorem HSays.fact (c : HSays fa fn K) (i : Nat) {f : PySem.W.Frag → Bool} (h : fa[i]? = some f := by rfl) : f K = true := by
  have c1 := (He.ba (show ((fa.all fun f => f K) && fn.all fun d => (He.Fa.code d.at_ d.qual).ok K) = true from congrArg (fun z : HAl => z.1) c)).1
  exact List.all_eq_true.mp c1 f (List.mem_of_getElem? h)
theorem HSays.def_ (c : HSays fa fn K) (i : Nat) {d : He.FnD} (h : fn[i]? = some d := by rfl) :
    ∃ oc od osl kV doc pm an cdv ct, K.lookup (He.fAd K d.at_) = some ⟨oc, od, .func (PySem.W.fnOf d.name d.qual d.params d.body d.scope .none kV doc pm an cdv ct), osl⟩ ∧ PySem.W.codeIn K cdv d.qual = true := by
  have c2 := (He.ba (show ((fa.all fun f => f K) && fn.all fun d => (He.Fa.code d.at_ d.qual).ok K) = true from congrArg (fun z : HAl => z.1) c)).2
  have e : fn.map (fun d => He.fnObs K d.at_) = fn.map He.FnD.val := congrArg (fun z : HAl => z.2) c
  have e2 : (fn.map fun d => He.fnObs K d.at_)[i]? = (fn.map He.FnD.val)[i]? := by rw [e]
  rw [List.getElem?_map, List.getElem?_map, h] at e2
  exact He.fn_ok (Option.some.inj e2) (List.all_eq_true.mp c2 d (List.mem_of_getElem? h))
end
theorem int_of {K : PySem.W.Frag} {x : Str} {i : Int} (h : intB K x i = true) : ∃ t, PySem.W.nsIn K mainGlobals x = some (some (.int i t)) := by
  unfold intB at h
  split at h
  · rename_i j t e
    obtain rfl := of_decide_eq_true h
    exact ⟨t, e⟩
  · cases h
theorem kd_of {K : PySem.W.Frag} {p : Str × Option Str} {v oc dV kV doc pm cdv ct : Value} {od an : Option Addr} {osl : Array (Option Value)} {n q : Str} {ps : Arguments} {b : List Stmt} {sc : Scope} (h : kdB K p v = true) (e : K.lookup (He.fAd K p) = some ⟨oc, od, .func (PySem.W.fnOf n q ps b sc dV kV doc pm an cdv ct), osl⟩) : kV = v := by
  unfold kdB at h
  rw [e] at h
  exact of_decide_eq_true h
theorem low_of {K : PySem.W.Frag} {C : Addr} {bm : List Value} {new : String} (q : lowIn K C bm new = true) : ∃ nm N qn bs sn sub ab col dd k0 k1 k2 k3 k5,
    K.lookup C = some (excClassObj nm qn C N bs bm true sn sub ab col dd k0 k1 k2 k3 k5 new) := by
  unfold lowIn at q
  split at q
  · rename_i dd cd sl ho
    split at q
    · rename_i C' bm' k0 k1 k2 k3 n k5 hm hs
      simp only [Bool.and_eq_true, beq_iff_eq, Bool.not_eq_true', decide_eq_true_eq] at q
      obtain ⟨⟨⟨⟨rfl, rfl⟩, hdel⟩, rfl⟩, hdict⟩ := q
      obtain ⟨nm, bs, mro, ns, qn, hd, sn, sub, ab, col, del⟩ := cd
      dsimp only at hm hdel hdict
      subst hm hdel hdict
      have hsl : sl = #[k0, k1, k2, k3, some (.builtin n), k5] := by
        obtain ⟨l⟩ := sl
        simp only at hs
        rw [hs]
      subst hsl
      exact ⟨nm, ns, qn, bs, sn, sub, ab, col, dd, k0, k1, k2, k3, k5, ho⟩
    · cases q
  · cases q
end CG
namespace CG
open PySem PySem.Spec PyProof.Rows L2
local macro_rules
  | `(tactic| simp_all only [$xs,*]) => `(tactic| try simp only [w_AE_var, w_AE_int, w_AE_bl, w_AE_str, w_AE_op, w_AA_nil, w_AA_cons, w_AE_tup, w_AE_lst, w_AE_cb, w_AE_call, w_AE_callD, w_AT_test, w_AT_b, w_AT_not, w_AT_and, w_AT_or, w_AT_yes, w_AO_none, w_AO_some, w_AI_tup, w_AI_lst, w_AI_rng, w_AG_name, w_AGs_nil, w_AGs_cons, w_AG_tup, w_AF_ae, w_AF_lst, w_AF_lc, w_AE_sl, w_AE_ownTup, w_AS_nop, w_AS_seq, w_AS_set, w_AS_asg, w_AS_par, w_AS_ret, w_AS_ifS, w_AS_for, w_AS_setOwn, w_AS_append, w_AS_frz, w_AS_never, w_AS_par3B, f_aAdd, f_aMul, f_aEq, f_aNe, f_aIsN, f_aNotN, f_aIx, f_aNeg, f_aLen, f_aRepr, f_aInt, f_aIn, f_aNotIn, f_aIsB, f_aIsNotB, f_aTup, f_aI, f_aI0, f_aB0, f_aMin, f_aMax, q_inL, q_inT, q_notInL, q_notInT, q_isB, q_isNotB, q_addI, q_addT, q_addL, q_int, q_int0, q_bool0, q_mulI, q_mulT, q_mulL, q_eqI, q_eqS, q_neI, q_neS, q_isN, q_notN, q_ixT, q_ixL, q_neg, q_lenT, q_lenL, q_repr, q_two, q_intB, q_tupT, q_tupL, q_slT, q_slL, q_unB, q_unI, q_unT, q_unL, q_unI1, q_unI2, q_unT1, q_unS1T, q_unS1L, q_un1, q_un2, q_un3, q_hd, q_rd, q_ow, q_ctrT, q_ctrI, q_ctrS, q_ctrS2, q_brdT, q_brd0, q_brd1, q_rowI, q_rowT, q_rowT1, q_rowL, q_at0, q_at1, q_at2, q_at3, q_unTL, f_aSortR, sortRF, w_lc2, q_unTT, q_unL0, ptR_ptr, n_AGs_cons, n_AGs_nil, f_aStr, f_aAddS, q_unS, q_fmtI, q_fmtS, q_strI, q_addS, q_join, q_unL1, w_h_HE_of, w_h_HE_fld, w_h_HE_isE, w_h_HE_isEs, w_h_HA_nil, w_h_HA_cons, w_h_HE_lst, w_h_HT_of, w_h_HT_b, w_h_HT_and, w_h_HS_ret, w_h_HS_setS, w_h_AS_tryY, w_zraise, w_AX_of, w_AX_seq, w_AX_ifS, w_AX_for, w_TyK_set, w_TyK_ret, w_kU, w_kUr, viewS_ptr, erP_C, erP_f, w_sortSet, w_niD, w_putD, w_keysD, w_setPr, w_prV, f_aSortI, sortIF, q_dcR, q_rdP, w_y_callA, w_h_ifx, wipeE, List.getElem?_cons_zero, List.getElem?_cons_succ, List.set_cons_zero, List.set_cons_succ, if_true, Bool.false_eq_true, if_false, true_and, and_true, Lim, dkS_deck, List.length_cons, List.length_nil, Nat.reduceAdd, Nat.reduceLeDiff, Nat.zero_le, Nat.zero_add, Int.reduceLT, Int.reduceLE, Int.reducePow, Int.reduceNeg, eq_self, decide_true, Bool.not_true, Bool.not_false, q_neB, q_eqB, q_isiR, q_rtT, q_rtT1, q_rtL, q_rtS0, q_rtS1, q_rtI, q_rtA, viewE_cons, viewE_nil, viewS_own, viewS_dat, viewS_deck, flat_int, flat_bool, flat_str, List.cons_append, List.nil_append, $xs,*])
local macro_rules
  | `(tactic| simp_all [$xs,*]) => `(tactic| try simp only [t_AE_var, t_AE_int, t_AE_bl, t_AE_str, t_AE_op, t_AA_nil, t_AA_cons, t_AE_tup, t_AE_lst, t_AE_cb, t_AE_call, t_AE_callD, t_AT_test, t_AT_b, t_AT_not, t_AT_and, t_AT_or, t_AT_yes, t_AO_none, t_AO_some, t_AI_tup, t_AI_lst, t_AI_rng, t_AG_name, t_AGs_nil, n_AGs_nil, t_AGs_cons, n_AGs_cons, t_AG_tup, t_AF_ae, t_AF_lst, t_AF_lc, t_AE_sl, t_AE_ownTup, t_AS_nop, t_AS_seq, t_AS_set, t_AS_asg, t_AS_par, t_AS_ret, t_AS_ifS, t_AS_for, t_AS_setOwn, t_AS_append, t_AS_frz, t_AS_never, t_AS_par3B, t_aAdd, t_aMul, t_aEq, t_aNe, t_aIsN, t_aNotN, t_aIx, t_aNeg, t_aLen, t_aRepr, t_aInt, t_aIn, t_aNotIn, t_aIsB, t_aIsNotB, t_aTup, t_aMin, t_aMax, t_aI, t_aI0, t_aB0, t_aSortR, t_lc2, t_aStr, t_aAddS, t_h_HE_of, t_h_HE_fld, t_h_HE_isE, t_h_HE_isEs, t_h_HA_nil, t_h_HA_cons, t_h_HE_lst, t_h_HT_of, t_h_HT_b, t_h_HT_and, t_h_HS_ret, t_h_HS_setS, t_h_AS_tryY, t_zraise, t_AX_of, t_AX_seq, t_AX_ifS, t_AX_for, t_TyK_set, t_TyK_ret, erP_C, erP_f, t_sortSet, t_niD, t_putD, t_keysD, t_setPr, t_prV, t_aSortI, tBegD, t_y_callA, t_h_ifx, $xs,*])
noncomputable abbrev NscPChanged : List Str := ["counter", "amount", "give", "get"]
theorem scPChanged : FnScope NscPChanged ["counter", "amount"] (defScope sPChanged) := ⟨rfl, rfl, rfl, by decide +kernel, rfl, by decide +kernel, by decide +kernel⟩
noncomputable abbrev NscPAfter_any_counter : List Str := ["board", "had", "kind", "amount", "counter"]
theorem scPAfter_any_counter : FnScope NscPAfter_any_counter ["board", "had"] (defScope sPAfter_any_counter) := ⟨rfl, rfl, rfl, by decide +kernel, rfl, by decide +kernel, by decide +kernel⟩
noncomputable abbrev NscPAmounts_of_kind : List Str := ["had", "kind", "held", "amount"]
theorem scPAmounts_of_kind : FnScope NscPAmounts_of_kind ["had", "kind"] (defScope sPAmounts_of_kind) := ⟨rfl, rfl, rfl, by decide +kernel, rfl, by decide +kernel, by decide +kernel⟩
noncomputable abbrev NscPAmounts_within : List Str := ["board", "kind", "amount", "steps", "had", "step", "after", "each"]
theorem scPAmounts_within : FnScope NscPAmounts_within ["board", "kind", "amount", "steps"] (defScope sPAmounts_within) := ⟨rfl, rfl, rfl, by decide +kernel, rfl, by decide +kernel, by decide +kernel⟩
noncomputable abbrev NscDeck : List Str := ["_law_script", "_law_cell"]
theorem scDeck : FnScope NscDeck ["_law_script"] (defScope sDeck) := ⟨rfl, rfl, rfl, by decide +kernel, rfl, by decide +kernel, by decide +kernel⟩
noncomputable abbrev NscDraw : List Str := ["_law_deck_here", "_law_bound", "_law_at", "_law_cell", "_law_mixed"]
theorem scDraw : FnScope NscDraw ["_law_deck_here", "_law_bound"] (defScope sDraw) := ⟨rfl, rfl, rfl, by decide +kernel, rfl, by decide +kernel, by decide +kernel⟩
noncomputable abbrev NscBoard : List Str := ["_law_deck_here", "_law_n", "_law_way", "_law_found", "_law_k", "_law_source", "_law_top", "_law_to", "_law_give", "_law_get"]
theorem scBoard : FnScope NscBoard ["_law_deck_here"] (defScope sBoard) := ⟨rfl, rfl, rfl, by decide +kernel, rfl, by decide +kernel, by decide +kernel⟩
noncomputable abbrev NscCoins : List Str := ["_law_deck_here"]
theorem scCoins : FnScope NscCoins ["_law_deck_here"] (defScope sCoins) := ⟨rfl, rfl, rfl, by decide +kernel, rfl, by decide +kernel, by decide +kernel⟩
noncomputable abbrev NscReached : List Str := ["_law_board_here", "_law_kind", "_law_amount", "_law_steps", "_law_rows", "_law_known", "_law_step", "_law_later", "_law_here", "_law_coins_here", "_law_source", "_law_to", "_law_give", "_law_get", "_law_after", "_law_k"]
theorem scReached : FnScope NscReached ["_law_board_here", "_law_kind", "_law_amount", "_law_steps"] (defScope sReached) := ⟨rfl, rfl, rfl, by decide +kernel, rfl, by decide +kernel, by decide +kernel⟩
noncomputable abbrev NscTold : List Str := ["_law_board_here", "_law_kind", "_law_amount", "_law_steps", "error", "_law_others"]
theorem scTold : FnScope NscTold ["_law_board_here", "_law_kind", "_law_amount", "_law_steps"] (defScope sTold) := ⟨rfl, rfl, rfl, by decide +kernel, rfl, by decide +kernel, by decide +kernel⟩
noncomputable abbrev NscLaw : List Str := ["_law_script", "_law_deck_here", "_law_turn", "_law_board_here", "_law_kind", "_law_amount", "_law_steps", "_law_shown", "_law_due", "_law_told_here", "_law_again"]
theorem scLaw : FnScope NscLaw ["_law_script"] (defScope sLaw) := ⟨rfl, rfl, rfl, by decide +kernel, rfl, by decide +kernel, by decide +kernel⟩
noncomputable def drawW (ds : List PyData) (t : Tq) (k : PK) : Prop := unI1 ds fun n => (0 < n ∧ n < 1125899906842624) ∧ t.n < Lim ∧ ∀ r, 0 ≤ r → r < n → k (.int r) (t.up 1)
noncomputable def p_draw : Pm := ⟨drawW, fun {ds t k k'} h w => by
  unfold drawW at w ⊢
  obtain ⟨n, rfl, h1, h2, h3⟩ := unI1_of w
  exact ⟨h1, h2, fun r r0 r1 => h _ _ (h3 r r0 r1)⟩⟩
section
variable {P : Program} {w : World} {K : PySem.W.Frag} {mg : Str → Option Value} {base : Heap}
theorem ok_deck0 {f : Addr} {fd : FuncData} (h : Has K mg "_law_deck" sDeck ["_law_script"] f fd) (T : Bz mg) : FnG P w K mg base CX0 1 f fd ["_law_script"] (spDeck K) := by
  refine okG h.F scDeck (fun vs H Q E h => ?_) (fun cd A out s H vs Q E hgd hr h => ?_)
  · obtain ⟨a, ns, rfl, _⟩ := h
    rfl
  · obtain ⟨a, ns, rfl, hS, q⟩ := h
    refine ⟨_, (pss_one (ps_ret (pe_lst (pa_cons (pe_lc (own := [("_law_cell", 1)]) rfl scDeck.nd (pi_list (pe_slice (r := rSlU K) sl_U (pv 0) po_none (po_some pe_int))) (blkOk_by (N := NscDeck) (sc := defScope sDeck) (by decide +kernel)) (fun _ _ _ _ _ => (pg_name (i := 1) scDeck.nd rfl (Or.inl rfl))) (fun _ _ _ _ _ => pts_nil) (fun _ _ _ _ _ => (pe_callB call_abs rfl T.z_abs boot_abs (pa_cons (pv 1) pa_nil)))) (pa_cons pe_int pa_nil))))), ?_⟩
    refine ⟨.ref a, rfl, 60, rfl, .inl ⟨a, _, rfl, hS, fun c nc => ?_⟩⟩
    have e1 : Same H (upd H c (.lst (cutV (ns.map V.int) none (some 60)))) := same_new nc
    have ec : cutV (ns.map V.int) none (some 60) = (ns.take 60).map V.int := by
      unfold cutV
      rw [HT.sIx_none, show HT.sIx (ns.map V.int).length (ns.map V.int).length (some 60) = min 60 (ns.map V.int).length from HT.sIx_nat _ _ 60, List.drop_zero, Nat.sub_zero, List.map_take]
      rw [List.take_eq_take_iff]
      omega
    rw [ec]
    rw [ec] at e1
    have hml : (ns.take 60).length ≤ 60 := by rw [List.length_take]; omega
    clear ec
    generalize ns.take 60 = ms at e1 hml ⊢
    refine ⟨c, rfl, ⟨_, SqL.of upd_same⟩, fun L nL => ?_⟩
    refine lc_list (xs := ms.map V.int) (fun i H' => Same H H' ∧ H' c = some (.lst (ms.map V.int)) ∧ H' L = some (.lst (((ms.take i).map fun z => if z < 0 then -z else z).map V.int))) ?_ ?_ ?_ ?_
    · refine ⟨e1.trans (same_new nL), ?_, ?_⟩
      · rw [upd_ne (ne_of_none upd_same nL)]
        exact upd_same
      · rw [upd_same]
        rfl
    · rintro i H' _ ⟨_, hc, _⟩
      exact SqL.of hc
    · rintro i x H' gx ⟨e', hc, hL⟩
      rw [List.getElem?_map] at gx
      cases gz : ms[i]? with
      | none => rw [gz] at gx; cases gx
      | some z =>
        rw [gz] at gx
        cases gx
        have hi : i < ms.length := (List.getElem?_eq_some_iff.mp gz).1
        have hLn : H L = none := e1.free nL
        refine ⟨rfl, ?_⟩
        refine ⟨.int z, rfl, z, rfl, _, hL, ?_, ?_, ?_, ?_⟩
        · rw [List.length_map, List.length_map, List.length_take]
          exact Nat.lt_of_le_of_lt (show min i ms.length ≤ 60 by omega) (by decide)
        · intro b o eb
          rw [upd_ne (ne_of_none eb hLn)]
          exact e' b o eb
        · rw [upd_ne (fun z => ?_)]
          · exact hc
          · subst z
            rw [upd_same] at nL
            cases nL
        · rw [upd_same, List.take_add_one, gz]
          simp only [Option.toList_some, List.map_append, List.map_cons, List.map_nil]
    · rintro H' ⟨e', hc, hL⟩
      refine ⟨by show 2 ≤ sizeLine; decide, fun D nD => ?_⟩
      have hLn : H L = none := e1.free nL
      have hDn : H D = none := by
        cases q : H D with
        | none => rfl
        | some o => rw [e' D o q] at nD; cases nD
      refine q D L _ (fun b o eb => ?_) hDn hLn ⟨.inl rfl, .inr rfl, fun a h => ?_, fun z => ?_, by omega, ((ms.take (ms.map V.int).length).map fun z => if z < 0 then -z else z), upd_same, ?_, ?_, ?_⟩
      · rw [upd_ne (ne_of_none eb hDn)]
        exact e' b o eb
      · rcases h with rfl | rfl
        · rw [upd_same]; exact trivial
        · rw [upd_ne (ne_of_none hL nD), hL]; exact trivial
      · subst z
        rw [hL] at nD
        cases nD
      · rw [upd_ne (ne_of_none hL nD)]
        exact hL
      · rw [List.length_map, List.length_take]
        omega
      · intro z hz
        obtain ⟨y, _, rfl⟩ := List.mem_map.mp hz
        split <;> omega
theorem ok_deck {f : Addr} {fd : FuncData} (h : Has K mg "_law_deck" sDeck ["_law_script"] f fd) (T : Bz mg) : FnG P w K mg base CX0 1 f fd ["_law_script"] (spM K MB) :=
  (ok_deck0 h T).imp fun vs H Q E ⟨a, ns, e, hS, q⟩ => ⟨a, ns, e, hS, fun D C H' _ _ _ dk => q (dkB D C) H' mb_dkB dk⟩
theorem do_set {te : TE} {g : TG} {u : TS} {Dd : Ends} {σ : L2.St} {H : Hp} (h : te σ H fun v H1 => g v σ H1 (u Dd)) : tSeq (tAsg te g) u Dd σ H := h
theorem do_if {tt : TT} {a b u : TS} {Dd : Ends} {σ : L2.St} {H : Hp} (h : tt σ H fun z H1 => if z = true then a { Dd with nx := u Dd } σ H1 else b { Dd with nx := u Dd } σ H1) : tSeq (tIfS tt a b) u Dd σ H := h
theorem do_ret {te : TE} {Dd : Ends} {σ : L2.St} {H : Hp} (h : te σ H Dd.rt) : tRet te Dd σ H := h
theorem same_of {H H1 : Hp} (x : Xt Dck.no.pl H H1) : Same H H1 := fun a o e => x.kp a o (fun z => z) e
theorem ok_draw {f : Addr} {fd : FuncData} (h : Has K mg "_law_draw" sDraw ["_law_deck_here", "_law_bound"] f fd) (T : Bz mg) : FnG P w K mg base CX0 1 f fd ["_law_deck_here", "_law_bound"] (spD K MB p_draw) := by
  refine okG h.F scDraw (fun vs H Q E h => ?_) (fun cd A out s H vs Q E hgd hr h => ?_)
  · obtain ⟨m, B, t, ds, ws, rfl, hM, al, pb, ok, ra, hp⟩ := h
    obtain ⟨n, rfl, _⟩ := unI1_of hp
    rw [List.length_cons, ← ra.length]
    rfl
  · obtain ⟨m, B, tq, ds, ws, rfl, ⟨C, mb⟩, al, pb, okm, ra, hp⟩ := h
    have ok := mb.get okm
    obtain ⟨n, rfl, ⟨n0, n1⟩, tl, hk⟩ := unI1_of hp
    obtain rfl : ws = [.int n] := RpA.ints_inv (ns := [n]) ra
    obtain ⟨D, eD⟩ : ∃ D, m.D = D := ⟨_, rfl⟩
    obtain ⟨t, et⟩ : ∃ t, tq.n = t := ⟨_, rfl⟩
    rw [eD, et] at ok
    rw [et] at tl
    rw [eD]
    obtain ⟨_, _, al2, ne, nn, cs, hD, hC, hlen, hcs⟩ := ok
    have fin : ∀ (H2 : Hp) (r : Int) (cs2 : List Int), (∀ b o, b ≠ D → b ≠ C → H b = some o → H2 b = some o) → H2 D = some (.lst [.ref C, .int (t + 1)]) → H2 C = some (.lst (cs2.map V.int)) →
        cs2.length ≤ 63 → (∀ c ∈ cs2, 0 ≤ c) → 0 ≤ r → r < n → Q (.int r) H2 := fun H2 r cs2 k1 k2 k3 k4 k5 r0 r1 => by
      have al3 : Al (Bk D C) H2 := fun a h => by
        rcases h with rfl | rfl
        · rw [k2]; exact trivial
        · rw [k3]; exact trivial
      have y3 : Xt (Bk m.D C) H H2 := by
        rw [eD]
        exact ⟨fun a o nb e => k1 a o (fun z => nb (.inl z)) (fun z => nb (.inr z)) e, al3⟩
      have d3 : Dk (Bk m.D C) H2 m.D C (t + 1) := by
        rw [eD]
        exact ⟨.inl rfl, .inr rfl, al3, ne, by omega, cs2, k2, k3, k4, k5⟩
      refine hk r r0 r1 (.int r) H2 ⟨fun a o nb e => y3.kp a o (fun z => nb (mb.bk a z)) e, fun a pa => ?_⟩ (by rw [← et] at d3; exact mb.put okm y3 d3) (rp_int.mpr rfl)
      by_cases z : Bk m.D C a
      · exact y3.al a z
      · have lv := m.live okm pa
        cases q : H a with
        | none => exact absurd q lv.ne
        | some o =>
          rw [q] at lv
          rw [y3.kp a o z q]
          exact lv
    have nb : ∀ {H' : Hp} {cs' : List Int} {t' : Int}, H' D = some (.lst [.ref C, .int t']) → H' C = some (.lst (cs'.map V.int)) → Rp K (fun _ => False) H' (.list [.list (cs'.map PyData.int), .int t']) (.ref D) := fun {H' cs' t'} h1 h2 =>
      rp_lst.mpr ⟨D, _, rfl, fun z => z, h1, .cons (rp_lst.mpr ⟨C, _, rfl, fun z => z, h2, RpA.ints cs'⟩) (.cons (rp_int.mpr rfl) .nil)⟩
    have rep0 : ∀ {H' : Hp} {t' : Int}, H' D = some (.lst [.ref C, .int t']) → H' C = some (.lst (cs.map V.int)) →
        Rep K .no (fun _ => False) (fun _ => False) [.dat (.list [.list (cs.map PyData.int), .int t']), .dat (.int n), .un, .un, .un] [some (.ref D), some (.int n), none, none, none] H' 0 := fun {H' t'} h1 h2 =>
      rep_args (m := .no) (B := fun _ => False) (N := NscDraw) (xs := [.dat (.list [.list (cs.map PyData.int), .int t']), .dat (.int n)]) (vs := [.ref D, .int n]) (fun _ z => z.elim) (fun _ z => z) trivial rfl
        (rep_dats (ds := [PyData.list [.list (cs.map PyData.int), .int t'], .int n]) (.cons (nb h1 h2) (.cons (rp_int.mpr rfl) .nil))) (fun x hx es => by
        simp only [List.mem_cons, List.not_mem_nil, or_false] at hx
        rcases hx with rfl | rfl <;> (intro z; cases z))
    refine ⟨_, (pss_cons (ps_asg (pe_op (r := rAddU K) op_addU (pe_ix (r := rIx K) ix_seq (pv 0) pe_int (fun _ _ => rfl)) pe_int) (pg_sub (pv 0) pe_int set_list))
      (pss_cons (ps_set (i := 2) scDraw.nd rfl (Or.inl rfl) (pe_op op_mod (pe_ix (r := rIx K) ix_seq (pv 0) pe_int (fun _ _ => rfl)) (pe_callB (call_maxU rfl) rfl T.z_max boot_max (pa_cons pe_int (pa_cons (pe_callB (r := rLenU K) call_lenU rfl T.z_len PySem.boot_len (pa_cons (pe_ix (r := rIx K) ix_seq (pv 0) pe_int (fun _ _ => rfl)) pa_nil)) pa_nil)))))
      (pss_cons (ps_set (i := 3) scDraw.nd rfl (Or.inl rfl) (pe_ix (r := rIx K) ix_seq (pe_op (r := rAddU K) op_addU (pe_ix (r := rIx K) ix_seq (pv 0) pe_int (fun _ _ => rfl)) (pe_lst (pa_cons pe_int pa_nil))) (pv 2) (fun _ _ => rfl)))
      (pss_cons (ps_if (pt_cmpR op_ge (pv 3) (pe_op op_pow pe_int pe_int) (nomark _))
        (pss_cons (ps_asg (pe_op op_dvU (pv 3) (pv 1)) (pg_sub (pe_ix (r := rIx K) ix_seq (pv 0) pe_int (fun _ _ => rfl)) (pv 2) set_list))
        (pss_one (ps_ret (pe_op op_mod (pv 3) (pv 1)))))
        pss_nil)
      (pss_cons (ps_set (i := 4) scDraw.nd rfl (Or.inl rfl) (pe_op op_mod (pe_op op_pow (pe_op (r := rAddU K) op_addU (pe_op (r := rAddU K) op_addU (pe_op op_mod (pv 3) pe_int) (pe_op (r := rMulU K) op_mulU pe_int (pe_ix (r := rIx K) ix_seq (pv 0) pe_int (fun _ _ => rfl)))) pe_int) pe_int) pe_int))
      (pss_one (ps_ret (pe_op op_mod (pe_op (r := rAddU K) op_addU (pe_op op_dvU (pv 4) pe_int) (pe_op (r := rMulU K) op_mulU pe_int (pe_ix (r := rIx K) ix_seq (pv 0) pe_int (fun _ _ => rfl)))) (pv 1))))))))), ?_⟩
    rw [show L2.start NscDraw [V.ref D, V.int n] = [some (.ref D), some (.int n), none, none, none] from rfl]
    refine (AE.op (aAdd K) (AE.op (aIx K) (AE.var K 0) (AE.int K 1)) (AE.int K 1)).ok (k := fun d _ => d = .int (t + 1)) (rep0 hD hC) ⟨.int t, rfl, rfl⟩ _ fun v d H1 t1 x1 _ hd rv => ?_
    subst hd
    obtain rfl := rp_int.mp rv
    have s1 := same_of x1
    obtain ⟨H2, hH2⟩ : ∃ H2, H2 = upd H1 D (.lst [.ref C, .int (t + 1)]) := ⟨_, rfl⟩
    have hD2 : H2 D = some (.lst [.ref C, .int (t + 1)]) := by rw [hH2]; exact upd_same
    have hC2 : H2 C = some (.lst (cs.map V.int)) := by
      rw [hH2, upd_ne ne.symm]
      exact s1 _ _ hC
    have kD : ∀ b o, b ≠ D → H b = some o → H2 b = some o := fun b o nb e => by rw [hH2, upd_ne nb]; exact s1 _ _ e
    have eH : upd H1 D (.lst ([V.ref C, V.int t].set 1 (V.int (t + 1)))) = H2 := hH2.symm
    refine ⟨.ref D, rfl, D, [.ref C, .int t], 1, 1, rfl, rfl, s1 _ _ hD, rfl, ?_⟩
    dsimp only
    rw [eH]
    -- at
    obtain ⟨L, hL⟩ : ∃ L : Int, (if ((cs.map PyData.int).length : Int) > 1 then ((cs.map PyData.int).length : Int) else 1) = L := ⟨_, rfl⟩
    have hL' : L = if (cs.length : Int) > 1 then (cs.length : Int) else 1 := by rw [← hL, List.length_map]
    have L0 : 0 < L := by rw [hL']; split <;> omega
    refine do_set (te := (AE.op (aMod K) (AE.op (aIx K) (AE.var K 0) (AE.int K 1)) (AE.cb (aMax K) (AA.cons (AE.int K 1) (AA.cons (AE.cb (aLen K) (AA.cons (AE.op (aIx K) (AE.var K 0) (AE.int K 0)) (AA.nil K))) (AA.nil K))))).te) ?_
    refine (AE.op (aMod K) (AE.op (aIx K) (AE.var K 0) (AE.int K 1)) (AE.cb (aMax K) (AA.cons (AE.int K 1) (AA.cons (AE.cb (aLen K) (AA.cons (AE.op (aIx K) (AE.var K 0) (AE.int K 0)) (AA.nil K))) (AA.nil K))))).ok (k := fun d _ => d = .int ((t + 1) % L)) (rep0 hD2 hC2)
      ⟨.int (t + 1), rfl, .list (cs.map PyData.int), rfl, by dsimp only; rw [hL]; exact L0, by dsimp only; rw [hL]⟩ _ fun v d H3 t3 x3 _ hd rv => ?_
    subst hd
    obtain rfl := rp_int.mp rv
    have s3 := same_of x3
    have rep3 := ((rep0 hD2 hC2).up x3 trivial (t' := 0)).set (i := 2) rv
    -- cell
    have a0 : 0 ≤ (t + 1) % L := Int.emod_nonneg _ (by omega)
    have a1 : (t + 1) % L < L := Int.emod_lt_of_pos _ L0
    obtain ⟨j, hj⟩ : ∃ j : Nat, (t + 1) % L = (j : Int) := ⟨((t + 1) % L).toNat, by omega⟩
    rw [hj] at rep3 rv a0 a1 ⊢
    have jl : j < cs.length ∨ (cs = [] ∧ j = 0) := by
      rw [hL'] at a1
      cases cs with
      | nil => exact .inr ⟨rfl, by simp at a1; omega⟩
      | cons c cs =>
        refine .inl ?_
        simp only [List.length_cons] at a1 ⊢
        split at a1 <;> omega
    obtain ⟨c, hc, c0, cj⟩ : ∃ c : Int, (cs ++ [0])[j]? = some c ∧ 0 ≤ c ∧ (10 ^ 18 ≤ c → cs[j]? = some c) := by
      rcases jl with jl | ⟨rfl, rfl⟩
      · exact ⟨cs[j], by rw [List.getElem?_append_left jl, List.getElem?_eq_getElem jl], hcs _ (List.getElem_mem jl), fun _ => List.getElem?_eq_getElem jl⟩
      · exact ⟨0, rfl, by omega, fun z => absurd z (by decide)⟩
    have hat : atI (cs.map PyData.int ++ [.int 0]) (j : Int) = some (.int c) := by
      have : (cs.map PyData.int ++ [.int 0]) = (cs ++ [0]).map PyData.int := by simp
      rw [this]
      refine at_ints ?_
      unfold atI ixN
      have hjl : j < (cs ++ [0]).length := (List.getElem?_eq_some_iff.mp hc).1
      rw [if_pos (by omega), if_pos (by omega)]
      simpa using hc
    refine do_set (te := (AE.op (aIx K) (AE.op (aAdd K) (AE.op (aIx K) (AE.var K 0) (AE.int K 0)) (AE.lst (AA.cons (AE.int K 0) (AA.nil K)))) (AE.var K 2)).te) ?_
    refine (AE.op (aIx K) (AE.op (aAdd K) (AE.op (aIx K) (AE.var K 0) (AE.int K 0)) (AE.lst (AA.cons (AE.int K 0) (AA.nil K)))) (AE.var K 2)).ok (k := fun d _ => d = .int c) rep3
      ⟨.list (cs.map PyData.int), rfl, by decide, ⟨by rw [List.length_map]; show cs.length + 1 ≤ 100000; omega, .int c, hat, rfl⟩⟩ _ fun v d H4 t4 x4 _ hd rv4 => ?_
    subst hd
    obtain rfl := rp_int.mp rv4
    have s4 := same_of x4
    have rep4 := (rep3.up x4 trivial (t' := 0)).set (i := 3) rv4
    have hD4 := s4 _ _ (s3 _ _ hD2)
    have hC4 := s4 _ _ (s3 _ _ hC2)
    refine do_if (tt := (AT.test (AE.op (aGe K) (AE.var K 3) (AE.op (aPow K) (AE.int K 10) (AE.int K 18)))).tt) ?_
    refine (AT.test (AE.op (aGe K) (AE.var K 3) (AE.op (aPow K) (AE.int K 10) (AE.int K 18)))).ok (k := fun b _ => b = true ↔ 10 ^ 18 ≤ c) rep4 ⟨⟨by decide, by decide, by decide⟩, by show (decide ((10 : Int) ^ (18 : Int).toNat ≤ c) = true ↔ _); rw [decide_eq_true_iff]; exact Iff.rfl⟩ _ fun b H5 t5 x5 _ hb => ?_
    have s5 := same_of x5
    have rep5 := rep4.up x5 trivial (t' := 0)
    have hD5 := s5 _ _ hD4
    have hC5 := s5 _ _ hC4
    have kD5 : ∀ b o, b ≠ D → H b = some o → H5 b = some o := fun b o nb e => s5 _ _ (s4 _ _ (s3 _ _ (kD b o nb e)))
    by_cases big : (10 ^ 18 : Int) ≤ c
    · rw [if_pos (hb.mpr big)]
      have gj := cj big
      have hjl : j < cs.length := (List.getElem?_eq_some_iff.mp gj).1
      refine do_set (te := (AE.op (aDv K) (AE.var K 3) (AE.var K 1)).te) ?_
      refine (AE.op (aDv K) (AE.var K 3) (AE.var K 1)).ok (k := fun d _ => d = .int (c / n)) rep5 ⟨⟨n0, by show n < 18446744073709551616; omega⟩, rfl⟩ _ fun v d H6 t6 x6 _ hd rv6 => ?_
      subst hd
      obtain rfl := rp_int.mp rv6
      have s6 := same_of x6
      have rep6 := rep5.up x6 trivial (t' := 0)
      have hD6 := s6 _ _ hD5
      have hC6 := s6 _ _ hC5
      have hix : ixN (cs.map V.int).length (j : Int) = some j := by
        unfold ixN
        rw [List.length_map, if_pos (by omega), if_pos (by omega)]
        simp
      refine ⟨.ref D, rfl, .inl ⟨D, _, 0, .ref C, rfl, rfl, SqL.of hD6, rfl, .int j, rfl, C, _, j, j, rfl, rfl, hC6, hix, ?_⟩⟩
      refine ⟨.int c, rfl, .int n, rfl, _, n, rfl, rfl, n0, ?_⟩
      refine fin _ _ (cs.set j (c / n)) (fun b o b1 b2 e => ?_) ?_ ?_ ?_ ?_ (Int.emod_nonneg _ (by omega)) (Int.emod_lt_of_pos _ n0)
      · rw [upd_ne b2]
        exact s6 _ _ (kD5 b o b1 e)
      · rw [upd_ne ne]
        exact hD6
      · rw [upd_same, List.map_set]
      · rw [List.length_set]
        exact hlen
      · intro z hz
        rcases List.mem_or_eq_of_mem_set hz with hz | rfl
        · exact hcs z hz
        · exact Int.ediv_nonneg c0 (by omega)
    · rw [if_neg (fun z => big (hb.mp z))]
      have pw : ∀ z : Int, 0 ≤ z % 2147483563 ∧ z % 2147483563 < 2147483563 := fun z => ⟨Int.emod_nonneg _ (by decide), Int.emod_lt_of_pos _ (by decide)⟩
      obtain ⟨p0, p1⟩ := pw c
      have tl' : t < 1000000000000 := tl
      refine do_set (te := (AE.op (aMod K) (AE.op (aPow K) (AE.op (aAdd K) (AE.op (aAdd K) (AE.op (aMod K) (AE.var K 3) (AE.int K 2147483563)) (AE.op (aMul K) (AE.int K 104729) (AE.op (aIx K) (AE.var K 0) (AE.int K 1)))) (AE.int K 7)) (AE.int K 4)) (AE.int K 2147483629)).te) ?_
      refine (AE.op (aMod K) (AE.op (aPow K) (AE.op (aAdd K) (AE.op (aAdd K) (AE.op (aMod K) (AE.var K 3) (AE.int K 2147483563)) (AE.op (aMul K) (AE.int K 104729) (AE.op (aIx K) (AE.var K 0) (AE.int K 1)))) (AE.int K 7)) (AE.int K 4)) (AE.int K 2147483629)).ok (k := fun d _ => ∃ z : Int, d = .int z) rep5
        ⟨by show (0 : Int) < 2147483563; decide, .int (t + 1), rfl, ⟨.inl ⟨by decide, by decide⟩, ⟨⟨by decide, by decide, ?_⟩, by show (0 : Int) < 2147483629; decide, _, rfl⟩⟩⟩ _ fun v d H6 t6 x6 _ hd rv6 => ?_
      · show (c % 2147483563 + 104729 * (t + 1) + 7).natAbs < 2 ^ 64
        omega
      obtain ⟨z, rfl⟩ := hd
      obtain rfl := rp_int.mp rv6
      have s6 := same_of x6
      have rep6 := (rep5.up x6 trivial (t' := 0)).set (i := 4) rv6
      refine do_ret (te := (AE.op (aMod K) (AE.op (aAdd K) (AE.op (aDv K) (AE.var K 4) (AE.int K 8)) (AE.op (aMul K) (AE.int K 31) (AE.op (aIx K) (AE.var K 0) (AE.int K 1)))) (AE.var K 1)).te) ?_
      refine (AE.op (aMod K) (AE.op (aAdd K) (AE.op (aDv K) (AE.var K 4) (AE.int K 8)) (AE.op (aMul K) (AE.int K 31) (AE.op (aIx K) (AE.var K 0) (AE.int K 1)))) (AE.var K 1)).ok (k := fun d _ => ∃ z : Int, d = .int z ∧ 0 ≤ z ∧ z < n) rep6
        ⟨⟨by decide, by decide⟩, .int (t + 1), rfl, ⟨.inl ⟨by decide, by decide⟩, n0, _, rfl, Int.emod_nonneg _ (by omega), Int.emod_lt_of_pos _ n0⟩⟩ _ fun v d H7 t7 x7 _ hd rv7 => ?_
      obtain ⟨y, rfl, y0, y1⟩ := hd
      obtain rfl := rp_int.mp rv7
      have s7 := same_of x7
      exact fin H7 y cs (fun b o b1 b2 e => s7 _ _ (s6 _ _ (kD5 b o b1 e))) (s7 _ _ (s6 _ _ hD5)) (s7 _ _ (s6 _ _ hC5)) hlen hcs y0 y1
end
noncomputable def pD (n : Int) (pre : List PyData → Prop) (post : List PyData → PyData → Prop) : Pm := ⟨fun ds t k => pre ds ∧ t.n + n ≤ 10000000 ∧ ∀ (d : PyData) (t' : Tq), post ds d → t'.n ≤ t.n + n → t'.o = t.o → k d t', fun {ds t k k'} h w => ⟨w.1, w.2.1, fun d t' p l o => h _ _ (w.2.2 d t' p l o)⟩⟩
noncomputable def pP (post : List PyData → PyData → Prop) : Pm := ⟨fun ds t k => ∃ d, post ds d ∧ k d t, fun {ds t k k'} h w => by
  obtain ⟨d, p, q⟩ := w
  exact ⟨d, p, h _ _ q⟩⟩
theorem w_draw {ds : List PyData} {t : Tq} {k : PK} : p_draw.w ds t k = drawW ds t k := rfl
theorem w_pD {n : Int} {pre : List PyData → Prop} {post : List PyData → PyData → Prop} {ds : List PyData} {t : Tq} {k : PK} : (pD n pre post).w ds t k = (pre ds ∧ t.n + n ≤ 10000000 ∧ ∀ (d : PyData) (t' : Tq), post ds d → t'.n ≤ t.n + n → t'.o = t.o → k d t') := rfl
theorem w_pP {post : List PyData → PyData → Prop} {ds : List PyData} {t : Tq} {k : PK} : (pP post).w ds t k = ∃ d, post ds d ∧ k d t := rfl
/-- a wish whose answer is told by what it keeps -/
noncomputable def pQ (R : List PyData → (PyData → Prop) → Prop) : Pm := ⟨fun ds t k => ∃ S, R ds S ∧ ∀ d, S d → k d t, fun {ds t k k'} h w => by
  obtain ⟨S, p, q⟩ := w
  exact ⟨S, p, fun d hd => h _ _ (q d hd)⟩⟩
theorem w_pQ {R : List PyData → (PyData → Prop) → Prop} {ds : List PyData} {t : Tq} {k : PK} : (pQ R).w ds t k = ∃ S, R ds S ∧ ∀ d, S d → k d t := rfl
noncomputable def p_board : Pm := pD 60 (fun ds => ds = []) (fun _ d => IsBoard 4 8 d)
section
variable {P : Program} {w : World} {K : PySem.W.Frag} {mg : Str → Option Value} {base : Heap}
noncomputable def b_board_1b3 (K : PySem.W.Frag) : AS K := (AS.append 3 (AA.cons (AE.tup (AA.cons (AE.var K 5) (AA.cons (AE.var K 7) (AA.cons (AE.var K 8) (AA.cons (AE.cb (aMin K) (AA.cons (AE.int K 5) (AA.cons (AE.op (aAdd K) (AE.var K 9) (AE.cb (aInt K) (AA.cons (AE.op (aEq K) (AE.var K 2) (AE.int K 3)) (AA.nil K)))) (AA.nil K)))) (AA.nil K)))))) (AA.nil K)))
noncomputable def b_board_1b2 (K : PySem.W.Frag) : AS K := (AS.seq (AS.par 8 9 (AA.cons (AE.op (aAdd K) (AE.int K 1) (AE.callD MB p_draw E0 0 (AA.cons (AE.var K 6) (AA.nil K)))) (AA.cons (AE.op (aAdd K) (AE.int K 1) (AE.callD MB p_draw E0 0 (AA.cons (AE.var K 6) (AA.nil K)))) (AA.nil K)))) (b_board_1b3 K))
noncomputable def b_board_1b1 (K : PySem.W.Frag) : AS K := (AS.seq (AS.set 7 (AE.op (aMod K) (AE.op (aAdd K) (AE.op (aAdd K) (AE.var K 5) (AE.int K 1)) (AE.op (aMul K) (AE.callD MB p_draw E0 0 (AA.cons (AE.op (aSub K) (AE.var K 1) (AE.int K 1)) (AA.nil K))) (AE.cb (aInt K) (AA.cons (AE.op (aNe K) (AE.var K 2) (AE.int K 1)) (AA.nil K))))) (AE.var K 1))) (b_board_1b2 K))
noncomputable def b_board_1b0 (K : PySem.W.Frag) : AS K := (AS.seq (AS.par 5 6 (AA.cons (AE.op (aIx K) (AE.lst (AA.cons (AE.callD MB p_draw E0 0 (AA.cons (AE.var K 1) (AA.nil K))) (AA.cons (AE.op (aMod K) (AE.var K 4) (AE.var K 1)) (AA.nil K)))) (AE.cb (aInt K) (AA.cons (AE.op (aEq K) (AE.var K 2) (AE.int K 1)) (AA.nil K)))) (AA.cons (AE.op (aIx K) (AE.lst (AA.cons (AE.int K 5) (AA.cons (AE.int K 5) (AA.cons (AE.int K 3) (AA.cons (AE.int K 2) (AA.nil K)))))) (AE.var K 2)) (AA.nil K)))) (b_board_1b1 K))
noncomputable def b_board_2 (K : PySem.W.Frag) : AS K := (AS.ret (AE.tup (AA.cons (AE.var K 1) (AA.cons (AE.ownTup K 3) (AA.nil K)))))
noncomputable def b_board_1 (K : PySem.W.Frag) : AS K := (AS.seq (AS.for (AI.rng (AA.cons (AE.op (aMul K) (AE.callD MB p_draw E0 0 (AA.cons (AE.int K 9) (AA.nil K))) (AE.cb (aInt K) (AA.cons (AE.op (aGt K) (AE.var K 1) (AE.int K 1)) (AA.nil K)))) (AA.nil K))) (AG.name K 4) (b_board_1b0 K)) (b_board_2 K))
noncomputable def b_board (K : PySem.W.Frag) : AS K := (AS.seq (AS.par3B 1 2 3 (AE.op (aAdd K) (AE.int K 1) (AE.callD MB p_draw E0 0 (AA.cons (AE.int K 4) (AA.nil K)))) (AE.callD MB p_draw E0 0 (AA.cons (AE.int K 4) (AA.nil K))) (AF.lst (AA.nil K))) (b_board_1 K))
theorem ok_board {f f1 : Addr} {fd fd1 : FuncData} (h : Has K mg "_law_board" sBoard ["_law_deck_here"] f fd) (T : Bz mg) (T_draw : Has K mg "_law_draw" sDraw ["_law_deck_here", "_law_bound"] f1 fd1) (G_draw : FnG P w K mg base CX0 1 f1 fd1 ["_law_deck_here", "_law_bound"] (spD K MB p_draw)) :
    FnG P w K mg base CX0 2 f fd ["_law_deck_here"] (spD K MB p_board) := by
  refine okD h scBoard (b_board K) p_board (fun cd A out s H E hgd hr => ⟨_, (pss_cons (ps_par3 (i := 1) (j := 2) (l := 3) rfl scBoard.nd rfl rfl rfl (by decide) (by decide) (by decide) rfl rfl rfl (pa_cons (pe_op (r := rAddU K) op_addU pe_int (pe_callG G_draw hgd (hr.mono (by decide)) rfl T_draw.m T_draw.F.kp T_draw.b .nil pass0 (pa_cons (pv 0) (pa_cons pe_int pa_nil)))) (pa_cons (pe_callG G_draw hgd (hr.mono (by decide)) rfl T_draw.m T_draw.F.kp T_draw.b .nil pass0 (pa_cons (pv 0) (pa_cons pe_int pa_nil))) (pa_cons (pe_lst pa_nil) pa_nil))) rfl)
      (pss_cons (ps_for PassesOwn.never rfl (pi_range1 rfl T.z_range (pa_cons (pe_op (r := rMulU K) op_mulU (pe_callG G_draw hgd (hr.mono (by decide)) rfl T_draw.m T_draw.F.kp T_draw.b .nil pass0 (pa_cons (pv 0) (pa_cons pe_int pa_nil))) (pe_callTy call_intU rfl T.z_int boot_intU (pa_cons (pe_cmpR op_gt (pv 1) pe_int (nomark _)) pa_nil))) pa_nil)) (pg_name (i := 4) scBoard.nd rfl (Or.inl rfl))
        (pss_cons (ps_par (i := 5) (j := 6) rfl scBoard.nd rfl rfl (by decide) rfl rfl (pa_cons (pe_ix (r := rIx K) ix_seq (pe_lst (pa_cons (pe_callG G_draw hgd (hr.mono (by decide)) rfl T_draw.m T_draw.F.kp T_draw.b .nil pass0 (pa_cons (pv 0) (pa_cons (pv 1) pa_nil))) (pa_cons (pe_op op_mod (pv 4) (pv 1)) pa_nil))) (pe_callTy call_intU rfl T.z_int boot_intU (pa_cons (pe_cmpR (r := rEqU K) (op_eqU hr.units) (pv 2) pe_int (nomark _)) pa_nil)) (fun _ _ => rfl)) (pa_cons (pe_ix (r := rIx K) ix_seq (pe_lst (pa_cons pe_int (pa_cons pe_int (pa_cons pe_int (pa_cons pe_int pa_nil))))) (pv 2) (fun _ _ => rfl)) pa_nil)) rfl)
        (pss_cons (ps_set (i := 7) scBoard.nd rfl (Or.inl rfl) (pe_op op_mod (pe_op (r := rAddU K) op_addU (pe_op (r := rAddU K) op_addU (pv 5) pe_int) (pe_op (r := rMulU K) op_mulU (pe_callG G_draw hgd (hr.mono (by decide)) rfl T_draw.m T_draw.F.kp T_draw.b .nil pass0 (pa_cons (pv 0) (pa_cons (pe_op op_sub (pv 1) pe_int) pa_nil))) (pe_callTy call_intU rfl T.z_int boot_intU (pa_cons (pe_cmpR (r := rNeU K) (op_neU hr.units) (pv 2) pe_int (nomark _)) pa_nil)))) (pv 1)))
        (pss_cons (ps_par (i := 8) (j := 9) rfl scBoard.nd rfl rfl (by decide) rfl rfl (pa_cons (pe_op (r := rAddU K) op_addU pe_int (pe_callG G_draw hgd (hr.mono (by decide)) rfl T_draw.m T_draw.F.kp T_draw.b .nil pass0 (pa_cons (pv 0) (pa_cons (pv 6) pa_nil)))) (pa_cons (pe_op (r := rAddU K) op_addU pe_int (pe_callG G_draw hgd (hr.mono (by decide)) rfl T_draw.m T_draw.F.kp T_draw.b .nil pass0 (pa_cons (pv 0) (pa_cons (pv 6) pa_nil)))) pa_nil)) rfl)
        (pss_one (ps_expr (pe_bm PySem.F.plainAttrs_list PySem.F.slot_list_append PySem.F.type_list_append mt_append (pv 3) (pa_cons (pe_tup (pa_cons (pv 5) (pa_cons (pv 7) (pa_cons (pv 8) (pa_cons (pe_callB (call_minU rfl) rfl T.z_min boot_min (pa_cons pe_int (pa_cons (pe_op (r := rAddU K) op_addU (pv 9) (pe_callTy call_intU rfl T.z_int boot_intU (pa_cons (pe_cmpR (r := rEqU K) (op_eqU hr.units) (pv 2) pe_int (nomark _)) pa_nil))) pa_nil))) pa_nil))))) pa_nil))))))))
      (pss_one (ps_ret (pe_tup (pa_cons (pv 1) (pa_cons (pe_callTy (r := rTupU K) call_tupU rfl T.z_tuple boot_tupleU (pa_cons (pv 3) pa_nil)) pa_nil))))))), by (simp_all [b_board_1b3, b_board_1b2, b_board_1b1, b_board_1b0, b_board_2, b_board_1, b_board]) <;> rfl⟩) (fun ds t k hw => ?_)
  obtain ⟨rfl, tl, hk⟩ := hw
  refine ⟨rfl, ?_⟩
  show (b_board K).wp [.deck MB, .un, .un, .un, .un, .un, .un, .un, .un, .un] t _
  simp_all only [b_board, w_draw, drawW]
  refine ⟨by first | omega | (simp only [Tq.up]; omega), fun r r0 r1 => ⟨by first | omega | (simp only [Tq.up]; omega), fun wy y0 y1 => ?_⟩⟩
  generalize hn : 1 + r = n
  have n0 : 1 ≤ n := by first | omega | (simp only [Tq.up]; omega)
  have n1 : n ≤ 4 := by first | omega | (simp only [Tq.up]; omega)
  simp_all only [b_board_1, w_draw, drawW]
  refine ⟨by first | omega | (simp only [Tq.up]; omega), fun q q0 q1 => ?_⟩
  obtain ⟨N, hN, hNb, hN1⟩ : ∃ N : Nat, (q * if decide (1 < n) = true then 1 else 0) = (N : Int) ∧ N ≤ 8 ∧ (1 < n ∨ N = 0) := by
    by_cases h : 1 < n
    · exact ⟨q.toNat, by rw [decide_eq_true h, if_pos rfl]; omega, by first | omega | (simp only [Tq.up]; omega), .inl h⟩
    · exact ⟨0, by rw [decide_eq_false h]; simp, by first | omega | (simp only [Tq.up]; omega), .inr rfl⟩
  rw [hN]
  refine ⟨.inl ⟨by first | omega | (simp only [Tq.up]; omega), by first | omega | (simp only [Tq.up]; omega)⟩, ⟨by first | omega | (simp only [Tq.up]; omega), by first | omega | (simp only [Tq.up]; omega)⟩, fun i e' t' => ∃ (cs : List Ctr) (y4 y5 y6 y7 y8 y9 : Sl), e' = [.deck MB, .dat (.int n), .dat (.int wy), .own (cs.map Ctr.d), y4, y5, y6, y7, y8, y9] ∧ t'.n ≤ t.n + 3 + 4 * i ∧ t'.o = t.o ∧ cs.length = i ∧ ∀ c ∈ cs, c.Ok n, ?_, ?_, ?_⟩
  · exact ⟨[], _, _, _, _, _, _, rfl, by first | omega | (simp only [Tq.up]; omega), rfl, rfl, fun c h => by simp at h⟩
  · rintro i d e' t' hd ⟨cs, y4, y5, y6, y7, y8, y9, rfl, lt, lo, lc, hok⟩
    obtain ⟨hi, rfl⟩ := rngD_get hd
    have n2 : 2 ≤ n := by first | omega | (simp only [Tq.up]; omega)
    simp_all only [b_board_1b0, w_draw, drawW]
    refine ⟨⟨by first | omega | (simp only [Tq.up]; omega), by first | omega | (simp only [Tq.up]; omega)⟩, by first | omega | (simp only [Tq.up]; omega), fun s s0 s1 => ⟨by first | omega | (simp only [Tq.up]; omega), ?_⟩⟩
    obtain ⟨src, e1, a0, a1⟩ : ∃ src : Int, atI [PyData.int s, .int ((0 + (i : Int)) % n)] (if decide (wy = 1) = true then 1 else 0) = some (.int src) ∧ 0 ≤ src ∧ src < n := by
      by_cases z : wy = 1
      · rw [decide_eq_true z]
        exact ⟨_, rfl, Int.emod_nonneg _ (by first | omega | (simp only [Tq.up]; omega)), Int.emod_lt_of_pos _ (by first | omega | (simp only [Tq.up]; omega))⟩
      · rw [decide_eq_false z]
        exact ⟨_, rfl, s0, s1⟩
    obtain ⟨top, e2, p0, p1, p3⟩ : ∃ top : Int, atI [PyData.int 5, .int 5, .int 3, .int 2] wy = some (.int top) ∧ 1 ≤ top ∧ top ≤ 5 ∧ (wy = 3 → top = 2) := by
      have c : wy = 0 ∨ wy = 1 ∨ wy = 2 ∨ wy = 3 := by first | omega | (simp only [Tq.up]; omega)
      rcases c with rfl | rfl | rfl | rfl
      · exact ⟨5, rfl, by decide, by decide, by decide⟩
      · exact ⟨5, rfl, by decide, by decide, by decide⟩
      · exact ⟨3, rfl, by decide, by decide, by decide⟩
      · exact ⟨2, rfl, by decide, by decide, by decide⟩
    refine atW_of e1 (atW_of e2 ?_)
    simp_all only [b_board_1b1, w_draw, drawW]
    refine ⟨⟨by first | omega | (simp only [Tq.up]; omega), by first | omega | (simp only [Tq.up]; omega)⟩, by first | omega | (simp only [Tq.up]; omega), fun v v0 v1 => ?_⟩
    obtain ⟨p, hp, pp0, pp1⟩ : ∃ p : Int, src + 1 + v * (if (!decide (wy = 1)) = true then 1 else 0) = src + p ∧ 1 ≤ p ∧ p < n := by
      by_cases z : wy = 1
      · rw [decide_eq_true z]
        exact ⟨1, by simp, by first | omega | (simp only [Tq.up]; omega), by first | omega | (simp only [Tq.up]; omega)⟩
      · rw [decide_eq_false z]
        exact ⟨1 + v, by simp; omega, by first | omega | (simp only [Tq.up]; omega), by first | omega | (simp only [Tq.up]; omega)⟩
    rw [hp]
    refine ⟨.inl ⟨by first | omega | (simp only [Tq.up]; omega), by first | omega | (simp only [Tq.up]; omega)⟩, by first | omega | (simp only [Tq.up]; omega), ?_⟩
    have hne := step_ne a0 a1 pp0 pp1 n1
    have d0 : 0 ≤ (src + p) % n := Int.emod_nonneg _ (by first | omega | (simp only [Tq.up]; omega))
    have d1 : (src + p) % n < n := Int.emod_lt_of_pos _ (by first | omega | (simp only [Tq.up]; omega))
    generalize (src + p) % n = dst at hne d0 d1
    simp_all only [b_board_1b2, w_draw, drawW]
    refine ⟨⟨by first | omega | (simp only [Tq.up]; omega), by first | omega | (simp only [Tq.up]; omega)⟩, by first | omega | (simp only [Tq.up]; omega), fun g g0 g1 => ⟨⟨by first | omega | (simp only [Tq.up]; omega), by first | omega | (simp only [Tq.up]; omega)⟩, by first | omega | (simp only [Tq.up]; omega), fun u u0 u1 => ?_⟩⟩
    simp_all only [b_board_1b3]
    obtain ⟨get, hget, gg0, gg1⟩ : ∃ get : Int, (if 1 + u + (if decide (wy = 3) = true then 1 else 0) < 5 then 1 + u + (if decide (wy = 3) = true then 1 else 0) else 5) = get ∧ 1 ≤ get ∧ get ≤ 5 := by
      refine ⟨_, rfl, ?_, ?_⟩ <;> split <;> first | omega | (split <;> omega)
    rw [hget]
    have em : cs.map Ctr.d ++ [.tuple [.int src, .int dst, .int (1 + g), .int get]] = (cs ++ [(⟨src, dst, 1 + g, get⟩ : Ctr)]).map Ctr.d := by
      rw [List.map_append]
      rfl
    rw [em]
    refine ⟨by rw [List.length_map]; omega, cs ++ [⟨src, dst, 1 + g, get⟩], _, _, _, _, _, _, rfl, by first | omega | (simp only [Tq.up]; omega), lo, by rw [List.length_append, lc]; rfl, fun c hc => ?_⟩
    · rcases List.mem_append.mp hc with hc | hc
      · exact hok c hc
      · rw [List.mem_singleton.mp hc]
        exact ⟨a0, a1, d0, d1, hne, by show (1 : Int) ≤ 1 + g; omega, by show 1 + g ≤ (5 : Int); omega, gg0, gg1⟩
  · rintro e' t' ⟨cs, y4, y5, y6, y7, y8, y9, rfl, lt, lo, lc, hok⟩
    rw [rngD_length] at lc lt
    simp_all only [b_board_2]
    exact hk _ _ ⟨n, cs, rfl, n0, n1, by first | omega | (simp only [Tq.up]; omega), hok⟩ (by first | omega | (simp only [Tq.up]; omega)) lo
end
noncomputable def p_coins : Pm := pD 2 (fun ds => ds = []) (fun _ d => ∃ a : Int, d = .int a ∧ 0 ≤ a ∧ a ≤ 1000000000000)
section
variable {P : Program} {w : World} {K : PySem.W.Frag} {mg : Str → Option Value} {base : Heap}
noncomputable def b_coins (K : PySem.W.Frag) : AS K := (AS.ret (AE.callD MB p_draw E0 0 (AA.cons (AE.op (aIx K) (AE.lst (AA.cons (AE.int K 9) (AA.cons (AE.int K 60) (AA.cons (AE.op (aPow K) (AE.int K 10) (AE.int K 4)) (AA.cons (AE.op (aAdd K) (AE.op (aPow K) (AE.int K 10) (AE.int K 12)) (AE.int K 1)) (AA.nil K)))))) (AE.callD MB p_draw E0 0 (AA.cons (AE.int K 4) (AA.nil K)))) (AA.nil K))))
theorem ok_coins {f f1 : Addr} {fd fd1 : FuncData} (h : Has K mg "_law_coins" sCoins ["_law_deck_here"] f fd) (T : Bz mg) (T_draw : Has K mg "_law_draw" sDraw ["_law_deck_here", "_law_bound"] f1 fd1) (G_draw : FnG P w K mg base CX0 1 f1 fd1 ["_law_deck_here", "_law_bound"] (spD K MB p_draw)) :
    FnG P w K mg base CX0 2 f fd ["_law_deck_here"] (spD K MB p_coins) := by
  refine okD h scCoins (b_coins K) p_coins (fun cd A out s H E hgd hr => ⟨_, (pss_one (ps_ret (pe_callG G_draw hgd (hr.mono (by decide)) rfl T_draw.m T_draw.F.kp T_draw.b .nil pass0 (pa_cons (pv 0) (pa_cons (pe_ix (r := rIx K) ix_seq (pe_lst (pa_cons pe_int (pa_cons pe_int (pa_cons (pe_op op_pow pe_int pe_int) (pa_cons (pe_op (r := rAddU K) op_addU (pe_op op_pow pe_int pe_int) pe_int) pa_nil))))) (pe_callG G_draw hgd (hr.mono (by decide)) rfl T_draw.m T_draw.F.kp T_draw.b .nil pass0 (pa_cons (pv 0) (pa_cons pe_int pa_nil))) (fun _ _ => rfl)) pa_nil))))), by (simp_all [b_coins]) <;> rfl⟩) (fun ds t k hw => ?_)
  obtain ⟨rfl, tl, hk⟩ := hw
  refine ⟨rfl, ?_⟩
  show (b_coins K).wp [.deck MB] t _
  simp_all only [b_coins, w_draw, drawW]
  refine ⟨⟨by decide, by decide, by decide⟩, ⟨by decide, by decide, by decide⟩, by first | omega | (simp only [Tq.up]; omega), fun r r0 r1 => ?_⟩
  have c : r = 0 ∨ r = 1 ∨ r = 2 ∨ r = 3 := by first | omega | (simp only [Tq.up]; omega)
  have fin : ∀ z : Int, 0 < z → z ≤ 1000000000001 → (0 < z ∧ z < 1125899906842624) ∧ (t.up 1).n < 1000000000000 ∧ ∀ r, 0 ≤ r → r < z → k (.int r) ((t.up 1).up 1) := fun z z0 z1 => ⟨⟨z0, by first | omega | (simp only [Tq.up]; omega)⟩, by first | omega | (simp only [Tq.up]; omega), fun r r0 r1 => hk _ _ ⟨r, rfl, r0, by first | omega | (simp only [Tq.up]; omega)⟩ (by first | omega | (simp only [Tq.up]; omega)) rfl⟩
  rcases c with rfl | rfl | rfl | rfl
  · exact atW_of rfl (fin 9 (by decide) (by decide))
  · exact atW_of rfl (fin 60 (by decide) (by decide))
  · exact atW_of rfl (fin (10 ^ (4 : Int).toNat) (by decide) (by decide))
  · exact atW_of rfl (fin (10 ^ (12 : Int).toNat + 1) (by decide) (by decide))
end
noncomputable def p_changed : Pm := pP fun ds d => ∃ (n : Int) (c : Ctr) (a : Int), ds = [c.d, .int a] ∧ c.Ok n ∧ d = .int (a / c.g * c.e)
section
variable {P : Program} {w : World} {K : PySem.W.Frag} {mg : Str → Option Value} {base : Heap}
noncomputable def b_changed_1 (K : PySem.W.Frag) : AS K := (AS.ret (AE.op (aMul K) (AE.op (aDv K) (AE.var K 1) (AE.var K 2)) (AE.var K 3)))
noncomputable def b_changed (K : PySem.W.Frag) : AS K := (AS.seq (AS.asg (AE.sl (AE.var K 0) (AO.some (AE.int K 2)) (AO.none K)) (AG.tup (AGs.cons 2 (AGs.cons 3 (AGs.nil K))))) (b_changed_1 K))
theorem ok_changed {f : Addr} {fd : FuncData} (h : Has K mg "changed" sPChanged ["counter", "amount"] f fd) (T : Bz mg) : FnG P w K mg base CX0 1 f fd ["counter", "amount"] (spA K p_changed) := by
  refine okA h scPChanged (b_changed K) p_changed (fun cd A out s H E hgd hr => ⟨_, (pss_cons (ps_asg (pe_slice (r := rSlU K) sl_U (pv 0) (po_some pe_int) po_none) (pg_tup rfl (pgs_cons (pg_name (i := 2) scPChanged.nd rfl (Or.inl rfl)) (pgs_cons (pg_name (i := 3) scPChanged.nd rfl (Or.inl rfl)) pgs_nil))))
      (pss_one (ps_ret (pe_op (r := rMulU K) op_mulU (pe_op op_dvU (pv 1) (pv 2)) (pv 3))))), by (simp_all [b_changed_1, b_changed]) <;> rfl⟩) (fun ds t k hw => ?_)
  obtain ⟨d, ⟨n, c, a, rfl, hc, rfl⟩, hk⟩ := hw
  refine ⟨rfl, ?_⟩
  show (b_changed K).wp [.dat c.d, .dat (.int a), .un, .un] t _
  have := hc.g0
  have := hc.g1
  have := hc.e0
  have := hc.e1
  simp_all only [b_changed, b_changed_1]
  exact ⟨⟨by omega, by omega⟩, .inr ⟨by omega, by omega⟩, hk⟩
end
/-- what comes after each counter that fits -/
noncomputable def nxt (cs : List Ctr) (es : List (Int × Int)) : List (Int × Int) := es.flatMap fun e => (cs.filter fun c => decide (c.s = e.1)).map fun c => (c.t, e.2 / c.g * c.e)
theorem mem_nxt {cs : List Ctr} {es : List (Int × Int)} {x : Int × Int} : x ∈ nxt cs es ↔ ∃ e ∈ es, ∃ c ∈ cs, c.s = e.1 ∧ x = (c.t, e.2 / c.g * c.e) := by
  unfold nxt
  simp only [List.mem_flatMap, List.mem_map, List.mem_filter, decide_eq_true_eq]
  constructor
  · rintro ⟨e, he, c, ⟨hc, h⟩, rfl⟩
    exact ⟨e, he, c, hc, h, rfl⟩
  · rintro ⟨e, he, c, hc, h, rfl⟩
    exact ⟨e, he, c, ⟨hc, h⟩, rfl⟩
noncomputable def cntS (cs : List Ctr) (k : Int) : Nat := (cs.filter fun c => decide (c.s = k)).length
theorem cntS_le {cs : List Ctr} {k : Int} : cntS cs k ≤ cs.length := List.length_filter_le _ _
theorem cntS_two : ∀ {cs : List Ctr} {k h : Int}, h ≠ k → cntS cs k + cntS cs h ≤ cs.length
  | [], _, _, _ => Nat.le_refl _
  | c :: cs, k, h, ne => by
    have ih := cntS_two (cs := cs) ne
    unfold cntS at ih ⊢
    simp only [List.filter_cons, List.length_cons]
    by_cases a : c.s = k
    · rw [if_pos (decide_eq_true a), if_neg (by rw [decide_eq_true_iff]; omega)]
      simp only [List.length_cons]
      omega
    · rw [if_neg (by rw [decide_eq_true_iff]; exact a)]
      by_cases b : c.s = h
      · rw [if_pos (decide_eq_true b)]
        simp only [List.length_cons]
        omega
      · rw [if_neg (by rw [decide_eq_true_iff]; exact b)]
        omega
theorem nxt_len {cs : List Ctr} {n : Nat} : ∀ {es : List (Int × Int)}, (∀ e ∈ es, cntS cs e.1 ≤ n) → (nxt cs es).length ≤ es.length * n
  | [], _ => by simp [nxt]
  | e :: es, h => by
    have ih := nxt_len (cs := cs) (n := n) (es := es) fun x hx => h x (List.mem_cons_of_mem _ hx)
    have he := h e List.mem_cons_self
    unfold nxt at ih ⊢
    unfold cntS at he
    rw [List.flatMap_cons, List.length_append, List.length_map, List.length_cons, Nat.succ_mul]
    omega
theorem nxt_app {cs : List Ctr} {x y : List (Int × Int)} : nxt cs (x ++ y) = nxt cs x ++ nxt cs y := List.flatMap_append ..
/-- pairs as rows -/
noncomputable def rw2 (e : Int × Int) : List Int := [e.1, e.2]
theorem rows2 : ∀ {rs : List (List Int)} {l : List (Int × Int)}, (∀ r ∈ rs, r ∈ l.map rw2) → ∃ es : List (Int × Int), rs = es.map rw2
  | [], _, _ => ⟨[], rfl⟩
  | r :: rs, l, h => by
    obtain ⟨es, rfl⟩ := rows2 (rs := rs) (l := l) fun x hx => h x (List.mem_cons_of_mem _ hx)
    obtain ⟨e, _, rfl⟩ := List.mem_map.mp (h r List.mem_cons_self)
    exact ⟨e :: es, rfl⟩
theorem rw2_inj {a b : Int × Int} (h : rw2 a = rw2 b) : a = b := by
  obtain ⟨a1, a2⟩ := a
  obtain ⟨b1, b2⟩ := b
  simp only [rw2, List.cons.injEq, and_true] at h
  rw [h.1, h.2]
theorem ss2 (l : List (Int × Int)) : ∃ es : List (Int × Int), ssR (l.map rw2) = es.map rw2 ∧ (∀ e, e ∈ es ↔ e ∈ l) ∧ es.length ≤ l.length := by
  obtain ⟨es, h⟩ := rows2 (rs := ssR (l.map rw2)) (l := l) fun r hr => mem_ssR.mp hr
  refine ⟨es, h, fun e => ?_, ?_⟩
  · have q : rw2 e ∈ ssR (l.map rw2) ↔ rw2 e ∈ l.map rw2 := mem_ssR
    rw [h, List.mem_map, List.mem_map] at q
    constructor
    · intro z
      obtain ⟨x, hx, e1⟩ := q.mp ⟨e, z, rfl⟩
      rw [← rw2_inj e1]
      exact hx
    · intro z
      obtain ⟨x, hx, e1⟩ := q.mpr ⟨e, z, rfl⟩
      rw [← rw2_inj e1]
      exact hx
  · have q := ssR_le (rs := l.map rw2)
    rw [h, List.length_map, List.length_map] at q
    exact q
noncomputable def pairD (e : Int × Int) : PyData := .tuple [.int e.1, .int e.2]
theorem pair_rows {l : List (Int × Int)} : l.map pairD = (l.map rw2).map rowT := by rw [List.map_map]; rfl
theorem ssR_nodup {rs : List (List Int)} : (ssR rs).Nodup := (sortR_perm _).nodup_iff.mpr (nubR_nodup rs)
theorem ss2n (l : List (Int × Int)) : ∃ es : List (Int × Int), ssR (l.map rw2) = es.map rw2 ∧ (∀ e, e ∈ es ↔ e ∈ l) ∧ es.length ≤ l.length ∧ es.Nodup := by
  obtain ⟨es, h1, h2, h3⟩ := ss2 l
  refine ⟨es, h1, h2, h3, ?_⟩
  have := ssR_nodup (rs := l.map rw2)
  rw [h1] at this
  exact List.Pairwise.of_map _ (fun a b hab e => hab (congrArg rw2 e)) this
/-- what comes after just so many counters, each time anew -/
noncomputable def lev (cs : List Ctr) (k a : Int) : Nat → List (Int × Int)
  | 0 => [(k, a)]
  | n + 1 => nxt cs (lev cs k a n)
noncomputable def tot (cs : List Ctr) (k a : Int) : Nat → List (Int × Int)
  | 0 => [(k, a)]
  | n + 1 => tot cs k a n ++ lev cs k a (n + 1)
theorem nxt_tot {cs : List Ctr} {k a : Int} : ∀ {n : Nat} {e : Int × Int}, e ∈ nxt cs (tot cs k a n) → e ∈ tot cs k a (n + 1)
  | 0, e, h => List.mem_append.mpr (.inr h)
  | n + 1, e, h => by
    rw [show tot cs k a (n + 1) = tot cs k a n ++ lev cs k a (n + 1) from rfl, nxt_app] at h
    rcases List.mem_append.mp h with h | h
    · exact List.mem_append.mpr (.inl (nxt_tot (n := n) h))
    · exact List.mem_append.mpr (.inr h)
theorem nxt_two {m : Nat} {cs : List Ctr} (hok : ∀ c ∈ cs, c.Ok (m : Int)) (l8 : cs.length ≤ 8) : ∀ es : List (Int × Int), (nxt cs (nxt cs es)).length ≤ 16 * es.length
  | [] => by simp [nxt]
  | e :: es => by
    have ih := nxt_two hok l8 es
    have q : nxt cs (e :: es) = nxt cs [e] ++ nxt cs es := nxt_app (x := [e])
    rw [q, nxt_app, List.length_append, List.length_cons]
    have h1 : (nxt cs [e]).length ≤ 1 * cntS cs e.1 := nxt_len (es := [e]) fun x hx => by rw [List.mem_singleton.mp hx]; exact Nat.le_refl _
    have h2 : (nxt cs (nxt cs [e])).length ≤ (nxt cs [e]).length * (8 - cntS cs e.1) := nxt_len fun x hx => by
      obtain ⟨d, hd, c, hc, hs, rfl⟩ := mem_nxt.mp hx
      rw [List.mem_singleton.mp hd] at hs
      have ne := (hok c hc).ne
      have := cntS_two (cs := cs) (k := e.1) (h := c.t) (fun z => ne (hs.trans z.symm))
      show cntS cs c.t ≤ _
      omega
    have c8 : cntS cs e.1 ≤ 8 := Nat.le_trans cntS_le l8
    have g3 : (nxt cs [e]).length * (8 - cntS cs e.1) ≤ 1 * cntS cs e.1 * (8 - cntS cs e.1) := Nat.mul_le_mul_right _ h1
    have g4 : 1 * cntS cs e.1 * (8 - cntS cs e.1) ≤ 16 := by
      generalize cntS cs e.1 = q at c8
      rcases (show q = 0 ∨ q = 1 ∨ q = 2 ∨ q = 3 ∨ q = 4 ∨ q = 5 ∨ q = 6 ∨ q = 7 ∨ q = 8 by omega) with rfl | rfl | rfl | rfl | rfl | rfl | rfl | rfl | rfl <;> decide
    omega
theorem lev_len {m : Nat} {cs : List Ctr} {k a : Int} (hok : ∀ c ∈ cs, c.Ok (m : Int)) (l8 : cs.length ≤ 8) : (lev cs k a 1).length ≤ 8 ∧ (lev cs k a 2).length ≤ 16 ∧ (lev cs k a 3).length ≤ 128 ∧ (lev cs k a 4).length ≤ 256 ∧ (lev cs k a 5).length ≤ 2048 ∧ (lev cs k a 6).length ≤ 4096 := by
  have h1 : (lev cs k a 1).length ≤ 1 * 8 := nxt_len (es := [(k, a)]) fun e _ => Nat.le_trans cntS_le l8
  have h2 : (lev cs k a 2).length ≤ 16 * 1 := nxt_two hok l8 _
  have h3 : (lev cs k a 3).length ≤ 16 * (lev cs k a 1).length := nxt_two hok l8 _
  have h4 : (lev cs k a 4).length ≤ 16 * (lev cs k a 2).length := nxt_two hok l8 _
  have h5 : (lev cs k a 5).length ≤ 16 * (lev cs k a 3).length := nxt_two hok l8 _
  have h6 : (lev cs k a 6).length ≤ 16 * (lev cs k a 4).length := nxt_two hok l8 _
  omega
theorem tot_len {m : Nat} {cs : List Ctr} {k a : Int} (hok : ∀ c ∈ cs, c.Ok (m : Int)) (l8 : cs.length ≤ 8) : (∀ i, i ≤ 5 → (tot cs k a i).length ≤ 2457 ∧ (nxt cs (tot cs k a i)).length ≤ 6552) ∧ ∀ i, i ≤ 6 → (tot cs k a i).length ≤ 6553 := by
  obtain ⟨h1, h2, h3, h4, h5, h6⟩ := lev_len (a := a) (k := k) hok l8
  have t0 : (tot cs k a 0).length = 1 := rfl
  have ts : ∀ n, (tot cs k a (n + 1)).length = (tot cs k a n).length + (lev cs k a (n + 1)).length := fun n => List.length_append
  have n0 : (nxt cs (tot cs k a 0)).length = (lev cs k a 1).length := rfl
  have ns : ∀ n, (nxt cs (tot cs k a (n + 1))).length = (nxt cs (tot cs k a n)).length + (lev cs k a (n + 2)).length := fun n => by
    rw [show tot cs k a (n + 1) = tot cs k a n ++ lev cs k a (n + 1) from rfl, nxt_app, List.length_append]
    rfl
  have a1 := ts 0; have a2 := ts 1; have a3 := ts 2; have a4 := ts 3; have a5 := ts 4; have a6 := ts 5
  have b1 := ns 0; have b2 := ns 1; have b3 := ns 2; have b4 := ns 3; have b5 := ns 4
  simp only [Nat.zero_add, Nat.reduceAdd] at a1 a2 a3 a4 a5 a6 b1 b2 b3 b4 b5
  refine ⟨fun i hi => ?_, fun i hi => ?_⟩
  · rcases (show i = 0 ∨ i = 1 ∨ i = 2 ∨ i = 3 ∨ i = 4 ∨ i = 5 by omega) with rfl | rfl | rfl | rfl | rfl | rfl <;> constructor <;> omega
  · rcases (show i = 0 ∨ i = 1 ∨ i = 2 ∨ i = 3 ∨ i = 4 ∨ i = 5 ∨ i = 6 by omega) with rfl | rfl | rfl | rfl | rfl | rfl | rfl <;> omega
theorem nxt_mono {cs : List Ctr} : ∀ {es l : List (Int × Int)}, es.Nodup → (∀ e ∈ es, e ∈ l) → (nxt cs es).length ≤ (nxt cs l).length
  | [], _, _, _ => Nat.zero_le _
  | e :: es, l, nd, sub => by
    have hn := List.nodup_cons.mp nd
    have p := List.perm_cons_erase (sub e List.mem_cons_self)
    have ih := nxt_mono (cs := cs) (es := es) (l := l.erase e) hn.2 fun x hx => (List.mem_erase_of_ne (fun z : x = e => hn.1 (by rw [← z]; exact hx))).mpr (sub x (List.mem_cons_of_mem _ hx))
    have q : (nxt cs l).length = (nxt cs (e :: l.erase e)).length := (p.flatMap_right _).length_eq
    rw [q, show nxt cs (e :: es) = nxt cs [e] ++ nxt cs es from nxt_app (x := [e]), show nxt cs (e :: l.erase e) = nxt cs [e] ++ nxt cs (l.erase e) from nxt_app (x := [e]), List.length_append, List.length_append]
    omega
theorem lev_tot {cs : List Ctr} {k a : Int} : ∀ {n : Nat} {e : Int × Int}, e ∈ lev cs k a n → e ∈ tot cs k a n
  | 0, _, h => h
  | _ + 1, _, h => List.mem_append.mpr (.inr h)
theorem tot_up {cs : List Ctr} {k a : Int} {n : Nat} {e : Int × Int} : e ∈ tot cs k a (n + 1) ↔ e ∈ tot cs k a n ∨ ∃ d ∈ tot cs k a n, e ∈ nxt cs [d] := by
  constructor
  · intro h
    rcases List.mem_append.mp h with h | h
    · exact .inl h
    · obtain ⟨d, hd, c, hc, h1, h2⟩ := mem_nxt.mp h
      exact .inr ⟨d, lev_tot hd, mem_nxt.mpr ⟨d, List.mem_singleton.mpr rfl, c, hc, h1, h2⟩⟩
  · rintro (h | ⟨d, hd, h⟩)
    · exact List.mem_append.mpr (.inl h)
    · obtain ⟨d', hd', c, hc, h1, h2⟩ := mem_nxt.mp h
      rw [List.mem_singleton.mp hd'] at h1 h2
      exact nxt_tot (mem_nxt.mpr ⟨d, hd, c, hc, h1, h2⟩)
/-- the amounts of one kind -/
noncomputable def ofK (es : List (Int × Int)) (j : Int) : List Int := (es.filter fun e => decide (e.1 = j)).map Prod.snd
theorem mem_ofK {es : List (Int × Int)} {j v : Int} : v ∈ ofK es j ↔ (j, v) ∈ es := by
  unfold ofK
  simp only [List.mem_map, List.mem_filter, decide_eq_true_eq]
  constructor
  · rintro ⟨⟨a, b⟩, ⟨h, rfl⟩, rfl⟩
    exact h
  · exact fun h => ⟨(j, v), ⟨h, rfl⟩, rfl⟩
noncomputable def ofD (es : List (Int × Int)) (j : Int) : PyData := .tuple ((ofK es j).map PyData.int)
noncomputable def p_anyc : Pm := pP fun ds d => ∃ (n : Int) (cs : List Ctr) (es : List (Int × Int)), ds = [boardD n cs, .list (es.map pairD)] ∧ (∀ c ∈ cs, c.Ok n) ∧ (nxt cs es).length ≤ 10000 ∧ cs.length ≤ 8 ∧ es.length ≤ 10000 ∧ d = .list ((nxt cs es).map pairD)
noncomputable def p_ofk : Pm := pP fun ds d => ∃ (es : List (Int × Int)) (j : Int), ds = [.list (es.map pairD), .int j] ∧ es.length ≤ 10000 ∧ d = ofD es j
theorem ofK_nodup {es : List (Int × Int)} {j : Int} (h : es.Nodup) : (ofK es j).Nodup := by
  unfold ofK
  refine List.pairwise_map.mpr ?_
  refine (h.filter _).imp_of_mem fun {x y} hx hy ne e => ne ?_
  have h1 := of_decide_eq_true (List.mem_filter.mp hx).2
  have h2 := of_decide_eq_true (List.mem_filter.mp hy).2
  exact Prod.ext (h1.trans h2.symm) e
/-- all that can be had by at most i counters, each kind's amounts ascending -/
structure Hav (cs : List Ctr) (k a : Int) (es : List (Int × Int)) (i : Nat) : Prop where
  mem : ∀ e, e ∈ es ↔ e ∈ tot cs k a i
  nd : es.Nodup
  asc : ∀ j, (ofK es j).Pairwise (· ≤ ·)
theorem Hav.zero {cs : List Ctr} {k a : Int} : Hav cs k a [(k, a)] 0 := ⟨fun _ => Iff.rfl, List.nodup_cons.mpr ⟨(fun h => nomatch h), .nil⟩, fun j => by
  unfold ofK
  by_cases c : k = j
  · rw [List.filter_cons, if_pos (decide_eq_true c)]
    exact List.pairwise_singleton _ _
  · rw [List.filter_cons, if_neg (by rw [decide_eq_true_iff]; exact c)]
    exact .nil⟩
theorem pr_le {x y : Int × Int} (h : rw2 x ≤ rw2 y) (e : x.1 = y.1) : x.2 ≤ y.2 := by
  refine Int.not_lt.mp fun z => ?_
  refine List.not_lt.mpr h ?_
  show [y.1, y.2] < [x.1, x.2]
  rw [e]
  exact List.cons_lt_cons_iff.mpr (.inr ⟨rfl, List.cons_lt_cons_iff.mpr (.inl z)⟩)
theorem asc_of {l : List (List Int)} {fs : List (Int × Int)} (h : ssR l = fs.map rw2) (j : Int) : (ofK fs j).Pairwise (· ≤ ·) := by
  have p : (ssR l).Pairwise (· ≤ ·) := (List.pairwise_mergeSort (le := fun x y : List Int => decide (x ≤ y)) (fun a b c h1 h2 => decide_eq_true (List.le_trans (of_decide_eq_true h1) (of_decide_eq_true h2))) (fun a b => by
    rcases List.le_total (α := Int) a b with h | h <;> simp [h]) (nubR l)).imp fun h => of_decide_eq_true h
  rw [h] at p
  have p2 := List.pairwise_map.mp p
  unfold ofK
  refine List.pairwise_map.mpr ((p2.filter _).imp_of_mem fun {x y} hx hy q => pr_le q ?_)
  exact (of_decide_eq_true (List.mem_filter.mp hx).2).trans (of_decide_eq_true (List.mem_filter.mp hy).2).symm
theorem Hav.step {cs : List Ctr} {k a : Int} {es fs : List (Int × Int)} {i : Nat} {l : List (List Int)} (R : Hav cs k a es i) (hf : ∀ e, e ∈ fs ↔ e ∈ es ++ nxt cs es) (nd : fs.Nodup) (hs : ssR l = fs.map rw2) : Hav cs k a fs (i + 1) := ⟨fun e => by
  rw [hf, tot_up, List.mem_append, R.mem]
  constructor
  · rintro (h | h)
    · exact .inl h
    · obtain ⟨d, hd, c, hc, h1, h2⟩ := mem_nxt.mp h
      exact .inr ⟨d, (R.mem d).mp hd, mem_nxt.mpr ⟨d, List.mem_singleton.mpr rfl, c, hc, h1, h2⟩⟩
  · rintro (h | ⟨d, hd, h⟩)
    · exact .inl h
    · obtain ⟨d', hd', c, hc, h1, h2⟩ := mem_nxt.mp h
      rw [List.mem_singleton.mp hd'] at h1 h2
      exact .inr (mem_nxt.mpr ⟨d, (R.mem d).mpr hd, c, hc, h1, h2⟩), nd, asc_of hs⟩
theorem Hav.len {m : Nat} {cs : List Ctr} {k a : Int} {es : List (Int × Int)} {i : Nat} (R : Hav cs k a es i) (hok : ∀ c ∈ cs, c.Ok (m : Int)) (l8 : cs.length ≤ 8) (i5 : i ≤ 5) : es.length ≤ 2457 ∧ (nxt cs es).length ≤ 6552 := by
  have h1 := List.Nodup.length_le_of_subset R.nd fun e he => (R.mem e).mp he
  have h2 := nxt_mono (cs := cs) R.nd fun e he => (R.mem e).mp he
  have h3 := (tot_len (a := a) (k := k) hok l8).1 i i5
  omega
/-- what is had, as the answer tells it -/
noncomputable def tupK (m : Nat) (es : List (Int × Int)) : PyData := .tuple ((List.range m).map fun j : Nat => ofD es (j : Int))
theorem Hav.uniq {cs : List Ctr} {k a : Int} {es fs : List (Int × Int)} {i : Nat} {j : Int} (R : Hav cs k a es i) (hm : ∀ e, e ∈ fs ↔ e ∈ tot cs k a i) (nd : fs.Nodup) : sortI (ofK fs j) = ofK es j := by
  refine sortI_uniq (R.asc j) ((List.perm_ext_iff_of_nodup (ofK_nodup R.nd) (ofK_nodup nd)).mpr fun v => ?_)
  rw [mem_ofK, mem_ofK, R.mem, hm]
theorem sortI_id {ns : List Int} (h : ns.Pairwise (· ≤ ·)) : sortI ns = ns := sortI_uniq h (.refl _)
theorem Hav.same {cs : List Ctr} {k a : Int} {es fs : List (Int × Int)} {i : Nat} {j : Int} (R : Hav cs k a es i) (S : Hav cs k a fs i) : ofK fs j = ofK es j := by
  rw [← R.uniq (j := j) S.mem S.nd, sortI_id (S.asc j)]
noncomputable def p_amw : Pm := pQ fun ds S => ∃ (m : Nat) (cs : List Ctr) (k a : Int) (N : Nat), ds = [boardD (m : Int) cs, .int k, .int a, .int (N : Int)] ∧ m ≤ 100 ∧ N ≤ 6 ∧ cs.length ≤ 8 ∧ (∀ c ∈ cs, c.Ok (m : Int)) ∧ S = fun d => ∃ es, Hav cs k a es N ∧ d = tupK m es
section
variable {P : Program} {w : World} {K : PySem.W.Frag} {mg : Str → Option Value} {base : Heap}
noncomputable def b_after_any_counter (K : PySem.W.Frag) : AS K := (AS.ret (AF.ae (AF.lc2 (AI.lst (AE.var K 1)) (AG.tup (AGs.cons 2 (AGs.cons 3 (AGs.nil K)))) (AT.yes K) (AI.tup (AE.op (aIx K) (AE.var K 0) (AE.int K 1))) (AG.name K 4) (AT.test (AE.op (aEq K) (AE.op (aIx K) (AE.var K 4) (AE.int K 0)) (AE.var K 2))) (AE.tup (AA.cons (AE.op (aIx K) (AE.var K 4) (AE.int K 1)) (AA.cons (AE.call p_changed E0 (AA.cons (AE.var K 4) (AA.cons (AE.var K 3) (AA.nil K)))) (AA.nil K)))) [2, 3, 4] [4] (show ∀ j ∈ [2, 3], j ∈ [2, 3, 4] by decide) (show ∀ j ∈ (AG.name K 4).sl, j ∈ [4] from fun _ h => h))))
theorem ok_anyc {f f1 : Addr} {fd fd1 : FuncData} (h : Has K mg "after_any_counter" sPAfter_any_counter ["board", "had"] f fd) (T : Bz mg) (T_changed : Has K mg "changed" sPChanged ["counter", "amount"] f1 fd1) (G_changed : FnG P w K mg base CX0 1 f1 fd1 ["counter", "amount"] (spA K p_changed)) : FnG P w K mg base CX0 2 f fd ["board", "had"] (spA K p_anyc) := by
  refine okA h scPAfter_any_counter (b_after_any_counter K) p_anyc (fun cd A out s H E hgd hr => ⟨_, (pss_one (ps_ret (pe_lc2 (own := [("kind", 2), ("amount", 3), ("counter", 4)]) (vs1 := [4]) rfl scPAfter_any_counter.nd (pi_list (pv 1)) (blkOk_by (N := NscPAfter_any_counter) (sc := defScope sPAfter_any_counter) (by decide +kernel)) (by decide) (fun _ _ _ _ _ => (pg_tup rfl (pgs_cons (pg_name (i := 2) scPAfter_any_counter.nd rfl (Or.inl rfl) (Or.inr rfl)) (pgs_cons (pg_name (i := 3) scPAfter_any_counter.nd rfl (Or.inl rfl) (Or.inr rfl)) pgs_nil)))) (fun _ _ _ _ _ => pts_nil) (fun _ _ _ _ _ => by exact (pi_tupK (K := K) (pe_ix (r := rIx K) ix_seq (pv 0) pe_int (fun _ _ => rfl)))) (fun _ _ _ _ _ => (pg_name (i := 4) scPAfter_any_counter.nd rfl (Or.inl rfl))) (fun _ _ _ _ _ => by exact (pts_one (pt_cmpR (r := rEqU K) (op_eqU hr.units) (pe_ix (r := rIx K) ix_seq (pv 4) pe_int (fun _ _ => rfl)) (pv 2) (nomark _)))) (fun _ _ _ _ _ => by exact (pe_tup (pa_cons (pe_ix (r := rIx K) ix_seq (pv 4) pe_int (fun _ _ => rfl)) (pa_cons (pe_callG G_changed hgd (hr.mono (by decide)) rfl T_changed.m T_changed.F.kp T_changed.b .nil pass0 (pa_cons (pv 4) (pa_cons (pv 3) pa_nil))) pa_nil))))))), by (simp_all [b_after_any_counter]) <;> rfl⟩) (fun ds t k hw => ?_)
  obtain ⟨d, ⟨n, cs, es, rfl, hok, l1, l8, l2, rfl⟩, hk⟩ := hw
  refine ⟨rfl, ?_⟩
  show (b_after_any_counter K).wp [.dat (boardD n cs), .dat (.list (es.map pairD)), .un, .un, .un] t _
  simp_all only [b_after_any_counter]
  first | rw [w_lc2] | erw [w_lc2]
  simp_all only []
  refine ⟨by rw [List.length_map]; omega, fun i acc s => s = t ∧ acc = (nxt cs (es.take i)).map pairD, ⟨rfl, rfl⟩, ?_, ?_⟩
  · rintro i d acc s hd ⟨rfl, rfl⟩
    rw [List.getElem?_map] at hd
    cases hq : es[i]? with
    | none => rw [hq] at hd; cases hd
    | some z =>
      rw [hq] at hd
      cases hd
      rw [show pairD z = .tuple [.int z.1, .int z.2] from rfl]
      simp_all only []
      refine ⟨by rw [List.length_map]; omega, fun r acc s3 => s3 = s ∧ acc = (nxt cs (es.take i) ++ nxt (cs.take r) [z]).map pairD, ⟨rfl, by rw [show nxt (cs.take 0) [z] = [] from rfl, List.append_nil]⟩, ?_, ?_⟩
      · rintro r d acc s3 hd ⟨rfl, rfl⟩
        rw [List.getElem?_map] at hd
        cases hr : cs[r]? with
        | none => rw [hr] at hd; cases hd
        | some c =>
          rw [hr] at hd
          cases hd
          have cok := hok c (List.mem_of_getElem? hr)
          have en : nxt (cs.take (r + 1)) [z] = nxt (cs.take r) [z] ++ (if c.s = z.1 then [(c.t, z.2 / c.g * c.e)] else []) := by
            rw [take_next hr]
            unfold nxt
            simp only [List.flatMap_cons, List.flatMap_nil, List.append_nil, List.filter_append, List.map_append, List.filter_cons, List.filter_nil]
            by_cases h : c.s = z.1
            · rw [if_pos (decide_eq_true h), if_pos h]
              rfl
            · rw [if_neg (by rw [decide_eq_true_iff]; exact h), if_neg h]
              rfl
          rw [show c.d = .tuple [.int c.s, .int c.t, .int c.g, .int c.e] from rfl]
          try simp_all only []
          rw [en]
          by_cases h : c.s = z.1
          · rw [decide_eq_true h, if_pos h]
            simp_all only [p_changed, w_pP]
            rw [← List.append_assoc, List.map_append (l₂ := [(c.t, z.2 / c.g * c.e)])]
            exact ⟨_, ⟨n, c, z.2, rfl, cok, rfl⟩, rfl⟩
          · rw [decide_eq_false h, if_neg h, List.append_nil]
            try simp_all only []
      · rintro acc s3 ⟨rfl, rfl⟩
        rw [List.length_map, List.take_length, take_next hq, nxt_app]
        exact ⟨rfl, rfl⟩
  · rintro acc s ⟨rfl, rfl⟩
    rw [List.length_map, List.take_length]
    exact hk
noncomputable def b_amounts_of_kind (K : PySem.W.Frag) : AS K := (AS.ret (AE.cb (aTup K) (AA.cons (AF.ae (AF.lc (AI.lst (AE.var K 0)) (AG.tup (AGs.cons 2 (AGs.cons 3 (AGs.nil K)))) (AT.test (AE.op (aEq K) (AE.var K 2) (AE.var K 1))) (AE.var K 3) [2, 3] (show ∀ j ∈ (AG.tup (AGs.cons 2 (AGs.cons 3 (AGs.nil K)))).sl, j ∈ [2, 3] from fun _ h => h))) (AA.nil K))))
theorem ok_ofk {f : Addr} {fd : FuncData} (h : Has K mg "amounts_of_kind" sPAmounts_of_kind ["had", "kind"] f fd) (T : Bz mg) : FnG P w K mg base CX0 1 f fd ["had", "kind"] (spA K p_ofk) := by
  refine okA h scPAmounts_of_kind (b_amounts_of_kind K) p_ofk (fun cd A out s H E hgd hr => ⟨_, (pss_one (ps_ret (pe_callTy (r := rTupU K) call_tupU rfl T.z_tuple boot_tupleU (pa_cons (pe_lc (own := [("held", 2), ("amount", 3)]) rfl scPAmounts_of_kind.nd (pi_list (pv 0)) (blkOk_by (N := NscPAmounts_of_kind) (sc := defScope sPAmounts_of_kind) (by decide +kernel)) (fun _ _ _ _ _ => (pg_tup rfl (pgs_cons (pg_name (i := 2) scPAmounts_of_kind.nd rfl (Or.inl rfl) (Or.inr rfl)) (pgs_cons (pg_name (i := 3) scPAmounts_of_kind.nd rfl (Or.inl rfl) (Or.inr rfl)) pgs_nil)))) (fun _ _ _ _ _ => (pts_one (pt_cmpR (r := rEqU K) (op_eqU hr.units) (pv 2) (pv 1) (nomark _)))) (fun _ _ _ _ _ => (pv 3))) pa_nil)))), by (simp_all [b_amounts_of_kind]) <;> rfl⟩) (fun ds t k hw => ?_)
  obtain ⟨d, ⟨es, j, rfl, l1, rfl⟩, hk⟩ := hw
  refine ⟨rfl, ?_⟩
  show (b_amounts_of_kind K).wp [.dat (.list (es.map pairD)), .dat (.int j), .un, .un] t _
  simp_all only [b_amounts_of_kind]
  refine ⟨by rw [List.length_map]; omega, fun i acc s => s = t ∧ acc = (ofK (es.take i) j).map PyData.int, ⟨rfl, rfl⟩, ?_, ?_⟩
  · rintro i d acc s hd ⟨rfl, rfl⟩
    rw [List.getElem?_map] at hd
    cases hq : es[i]? with
    | none => rw [hq] at hd; cases hd
    | some z =>
      rw [hq] at hd
      cases hd
      have en : ofK (es.take (i + 1)) j = ofK (es.take i) j ++ (if z.1 = j then [z.2] else []) := by
        rw [take_next hq]
        unfold ofK
        rw [List.filter_append, List.map_append, List.filter_cons, List.filter_nil]
        by_cases c : z.1 = j
        · rw [if_pos (decide_eq_true c), if_pos c]
          rfl
        · rw [if_neg (by rw [decide_eq_true_iff]; exact c), if_neg c]
          rfl
      rw [show pairD z = .tuple [.int z.1, .int z.2] from rfl]
      simp_all only []
      rw [en]
      by_cases c : z.1 = j
      · rw [decide_eq_true c, if_pos rfl, if_pos c, List.map_append]
        exact rfl
      · rw [decide_eq_false c, if_neg (by decide), if_neg c, List.append_nil]
  · rintro acc s ⟨rfl, rfl⟩
    rw [List.length_map, List.take_length]
    exact hk
noncomputable def b_amounts_within_2b1 (K : PySem.W.Frag) : AS K := (AS.set 4 (AE.sortSet (AE.op (aAdd K) (AE.var K 4) (AE.var K 6))))
noncomputable def b_amounts_within_2b0 (K : PySem.W.Frag) : AS K := (AS.seq (AS.set 6 (AE.call p_anyc E0 (AA.cons (AE.var K 0) (AA.cons (AE.var K 4) (AA.nil K))))) (b_amounts_within_2b1 K))
noncomputable def b_amounts_within_3 (K : PySem.W.Frag) : AS K := (AS.ret (AE.cb (aTup K) (AA.cons (AF.ae (AF.lc (AI.rng (AA.cons (AE.op (aIx K) (AE.var K 0) (AE.int K 0)) (AA.nil K))) (AG.name K 7) (AT.yes K) (AE.call p_ofk E0 (AA.cons (AE.var K 4) (AA.cons (AE.var K 7) (AA.nil K)))) [7] (show ∀ j ∈ (AG.name K 7).sl, j ∈ [7] from fun _ h => h))) (AA.nil K))))
noncomputable def b_amounts_within_2 (K : PySem.W.Frag) : AS K := (AS.seq (AS.for (AI.rng (AA.cons (AE.var K 3) (AA.nil K))) (AG.name K 5) (b_amounts_within_2b0 K)) (b_amounts_within_3 K))
noncomputable def b_amounts_within_1 (K : PySem.W.Frag) : AS K := (AS.seq (AS.set 4 (AE.lst (AA.cons (AE.tup (AA.cons (AE.var K 1) (AA.cons (AE.var K 2) (AA.nil K)))) (AA.nil K)))) (b_amounts_within_2 K))
noncomputable def b_amounts_within (K : PySem.W.Frag) : AS K := (AS.seq (AS.ifS (AT.test (AE.op (aGt K) (AE.var K 3) (AE.int K 6))) (AS.never K) (AS.nop K)) (b_amounts_within_1 K))
theorem ok_amw {f f1 f2 : Addr} {fd fd1 fd2 : FuncData} {u : Value} (h : Has K mg "amounts_within" sPAmounts_within ["board", "kind", "amount", "steps"] f fd) (T : Bz mg) (T_sorted : mg "sorted" = none) (T_set : mg "set" = none) (C_SMALL_STEPS : mg "SMALL_STEPS" = some u) (R_SMALL_STEPS : RelV (.int 6) u) (T_after_any_counter : Has K mg "after_any_counter" sPAfter_any_counter ["board", "had"] f1 fd1) (G_after_any_counter : FnG P w K mg base CX0 2 f1 fd1 ["board", "had"] (spA K p_anyc)) (T_amounts_of_kind : Has K mg "amounts_of_kind" sPAmounts_of_kind ["had", "kind"] f2 fd2) (G_amounts_of_kind : FnG P w K mg base CX0 1 f2 fd2 ["had", "kind"] (spA K p_ofk)) : FnG P w K mg base CX0 3 f fd ["board", "kind", "amount", "steps"] (spA K p_amw) := by
  refine okA h scPAmounts_within (b_amounts_within K) p_amw (fun cd A out s H E hgd hr => ⟨_, (pss_cons (ps_if (pt_cmpR op_gt (pv 3) (pe_glob rfl C_SMALL_STEPS R_SMALL_STEPS) (nomark _))
        (pss_one ps_never)
        pss_nil)
      (pss_cons (ps_set (i := 4) scPAmounts_within.nd rfl (Or.inr rfl) (pe_lst (pa_cons (pe_tup (pa_cons (pv 1) (pa_cons (pv 2) pa_nil))) pa_nil)))
      (pss_cons (ps_for PassesOwn.never rfl (pi_range1 rfl T.z_range (pa_cons (pv 3) pa_nil)) (pg_name (i := 5) scPAmounts_within.nd rfl (Or.inl rfl))
        (pss_cons (ps_set (i := 6) scPAmounts_within.nd rfl (Or.inl rfl) (pe_callG G_after_any_counter hgd (hr.mono (by decide)) rfl T_after_any_counter.m T_after_any_counter.F.kp T_after_any_counter.b .nil pass0 (pa_cons (pv 0) (pa_cons (pv 4) pa_nil))))
        (pss_one (ps_set (i := 4) scPAmounts_within.nd rfl (Or.inr rfl) (pe_sortSet hr.units rfl T_sorted rfl T_set (pe_op (r := rAddU K) op_addU (pv 4) (pv 6)))))))
      (pss_one (ps_ret (pe_callTy (r := rTupU K) call_tupU rfl T.z_tuple boot_tupleU (pa_cons (pe_lc (own := [("each", 7)]) rfl scPAmounts_within.nd (pi_range1 rfl T.z_range (pa_cons (pe_ix (r := rIx K) ix_seq (pv 0) pe_int (fun _ _ => rfl)) pa_nil)) (blkOk_by (N := NscPAmounts_within) (sc := defScope sPAmounts_within) (by decide +kernel)) (fun _ _ _ _ _ => (pg_name (i := 7) scPAmounts_within.nd rfl (Or.inl rfl))) (fun _ _ _ _ _ => pts_nil) (fun _ _ _ _ _ => (pe_callG G_amounts_of_kind hgd (hr.mono (by decide)) rfl T_amounts_of_kind.m T_amounts_of_kind.F.kp T_amounts_of_kind.b .nil pass0 (pa_cons (pv 4) (pa_cons (pv 7) pa_nil))))) pa_nil))))))), by (simp_all [b_amounts_within_2b1, b_amounts_within_2b0, b_amounts_within_3, b_amounts_within_2, b_amounts_within_1, b_amounts_within]) <;> rfl⟩) (fun ds t k hw => ?_)
  obtain ⟨S, ⟨m, cs, k0, a, N, rfl, hm, hN, l8, hok, rfl⟩, hk⟩ := hw
  refine ⟨rfl, ?_⟩
  show (b_amounts_within K).wp [.dat (boardD (m : Int) cs), .dat (.int k0), .dat (.int a), .dat (.int (N : Int)), .un, .un, .un, .un] t _
  simp_all only [b_amounts_within]
  rw [decide_eq_false (show ¬ (6 : Int) < (N : Int) by omega), if_neg (by decide)]
  simp_all only [b_amounts_within_1]
  simp_all only [b_amounts_within_2]
  refine ⟨⟨by omega, by omega⟩, fun i e s => ∃ (es : List (Int × Int)) (y5 y6 y7 : Sl), e = [.dat (boardD (m : Int) cs), .dat (.int k0), .dat (.int a), .dat (.int (N : Int)), .dat (.list (es.map pairD)), y5, y6, y7] ∧ s = t ∧ Hav cs k0 a es i, ⟨[(k0, a)], _, _, _, rfl, rfl, Hav.zero⟩, ?_, ?_⟩
  · rintro i d e s hd ⟨es, y5, y6, y7, rfl, rfl, R⟩
    obtain ⟨hi, rfl⟩ := rng0_get hd
    have i5 : i ≤ 5 := by omega
    obtain ⟨b1, b2⟩ := R.len hok l8 i5
    simp_all only [b_amounts_within_2b0, p_anyc, w_pP]
    refine ⟨_, ⟨(m : Int), cs, es, rfl, hok, by omega, l8, by omega, rfl⟩, ?_⟩
    simp_all only [b_amounts_within_2b1]
    obtain ⟨fs, f1, f2, f3, f4⟩ := ss2n (es ++ nxt cs es)
    refine ⟨by rw [List.length_map, List.length_map]; omega, (es ++ nxt cs es).map rw2, by rw [← List.map_append, pair_rows], fun r hr => ?_, by rw [List.length_map, List.length_append]; omega, ?_⟩
    · obtain ⟨e, _, rfl⟩ := List.mem_map.mp hr
      exact fun z => nomatch z
    · rw [f1, ← pair_rows]
      exact ⟨fs, _, _, _, rfl, R.step f2 f4 f1⟩
  · rintro e s ⟨es, y5, y6, y7, rfl, rfl, R⟩
    rw [rngD_length, show ((N : Int) - 0).toNat = N by omega] at R
    simp_all only [b_amounts_within_3]
    have l1 : es.length ≤ 10000 := by
      have := List.Nodup.length_le_of_subset R.nd fun e he => (R.mem e).mp he
      have := (tot_len (a := a) (k := k0) hok l8).2 N hN
      omega
    refine ⟨⟨by omega, by omega⟩, by rw [rngD_length]; omega, fun i acc s2 => s2 = s ∧ acc = (List.range i).map fun j : Nat => ofD es (j : Int), ⟨rfl, rfl⟩, ?_, ?_⟩
    · rintro i d acc s2 hd ⟨rfl, rfl⟩
      obtain ⟨hi, rfl⟩ := rng0_get hd
      simp_all only [p_ofk, w_pP]
      rw [List.range_succ, List.map_append]
      exact ⟨_, ⟨es, (i : Int), rfl, l1, rfl⟩, rfl⟩
    · rintro acc s2 ⟨rfl, rfl⟩
      rw [rngD_length, show ((m : Int) - 0).toNat = m by omega]
      exact hk _ ⟨es, R, rfl⟩
end
/-- what a search round by round has found: all of it, and what the last round brought -/
structure Fnd (cs : List Ctr) (k a : Int) (es rs : List (Int × Int)) (i : Nat) : Prop where
  mem : ∀ e, e ∈ es ↔ e ∈ tot cs k a i
  nd : es.Nodup
  sub : ∀ e ∈ rs, e ∈ es
  cl : ∀ e ∈ es, e ∉ rs → ∀ d ∈ nxt cs [e], d ∈ es
theorem Fnd.zero {cs : List Ctr} {k a : Int} : Fnd cs k a [(k, a)] [(k, a)] 0 := ⟨fun _ => Iff.rfl, List.nodup_cons.mpr ⟨(fun h => nomatch h), .nil⟩, fun _ h => h, fun _ h n => absurd h n⟩
/-- within a round: i rows and r counters of the next row are done, la is new -/
structure Mid (cs : List Ctr) (es rs la : List (Int × Int)) (i r : Nat) : Prop where
  nd : (es ++ la).Nodup
  fr : ∀ d ∈ la, ∃ e ∈ rs, d ∈ nxt cs [e]
  dn : ∀ j e, j < i → rs[j]? = some e → ∀ d ∈ nxt cs [e], d ∈ es ++ la
  pt : ∀ e, rs[i]? = some e → ∀ d ∈ nxt (cs.take r) [e], d ∈ es ++ la
theorem Mid.zero {cs : List Ctr} {es rs : List (Int × Int)} (h : es.Nodup) : Mid cs es rs [] 0 0 := ⟨by rw [List.append_nil]; exact h, (fun _ h => nomatch h), fun j e h => absurd h (Nat.not_lt_zero j), fun e _ d h => by
  obtain ⟨_, _, c, hc, _⟩ := mem_nxt.mp h
  cases hc⟩
theorem nxt_one {cs : List Ctr} {c : Ctr} {r : Nat} {z : Int × Int} (hr : cs[r]? = some c) : nxt (cs.take (r + 1)) [z] = nxt (cs.take r) [z] ++ (if c.s = z.1 then [(c.t, z.2 / c.g * c.e)] else []) := by
  rw [take_next hr]
  unfold nxt
  simp only [List.flatMap_cons, List.flatMap_nil, List.append_nil, List.filter_append, List.map_append, List.filter_cons, List.filter_nil]
  by_cases h : c.s = z.1
  · rw [if_pos (decide_eq_true h), if_pos h]
    rfl
  · rw [if_neg (by rw [decide_eq_true_iff]; exact h), if_neg h]
    rfl
theorem Mid.keep {cs : List Ctr} {es rs la : List (Int × Int)} {i r : Nat} {c : Ctr} {z : Int × Int} (M : Mid cs es rs la i r) (hz : rs[i]? = some z) (hc : cs[r]? = some c) (h : c.s = z.1 → (c.t, z.2 / c.g * c.e) ∈ es ++ la) : Mid cs es rs la i (r + 1) := ⟨M.nd, M.fr, M.dn, fun e he d hd => by
  rw [hz] at he
  cases he
  rw [nxt_one hc] at hd
  rcases List.mem_append.mp hd with hd | hd
  · exact M.pt z hz d hd
  · by_cases q : c.s = z.1
    · rw [if_pos q] at hd
      rw [List.mem_singleton.mp hd]
      exact h q
    · rw [if_neg q] at hd
      cases hd⟩
theorem Mid.add {cs : List Ctr} {es rs la : List (Int × Int)} {i r : Nat} {c : Ctr} {z : Int × Int} (M : Mid cs es rs la i r) (hz : rs[i]? = some z) (hc : cs[r]? = some c) (hs : c.s = z.1) (hn : (c.t, z.2 / c.g * c.e) ∉ es ++ la) : Mid cs es rs (la ++ [(c.t, z.2 / c.g * c.e)]) i (r + 1) := by
  have up : ∀ {d : Int × Int}, d ∈ es ++ la → d ∈ es ++ (la ++ [(c.t, z.2 / c.g * c.e)]) := fun h => by
    rw [← List.append_assoc]
    exact List.mem_append_left _ h
  refine ⟨?_, fun d hd => ?_, fun j e hj he d hd => up (M.dn j e hj he d hd), fun e he d hd => ?_⟩
  · rw [← List.append_assoc]
    refine List.nodup_append.mpr ⟨M.nd, List.nodup_cons.mpr ⟨(fun h => nomatch h), .nil⟩, fun x hx y hy e => ?_⟩
    rw [List.mem_singleton.mp hy] at e
    exact hn (e ▸ hx)
  · rcases List.mem_append.mp hd with hd | hd
    · exact M.fr d hd
    · rw [List.mem_singleton.mp hd]
      exact ⟨z, List.mem_of_getElem? hz, mem_nxt.mpr ⟨z, List.mem_singleton.mpr rfl, c, List.mem_of_getElem? hc, hs, rfl⟩⟩
  · rw [hz] at he
    cases he
    rw [nxt_one hc, if_pos hs] at hd
    rcases List.mem_append.mp hd with hd | hd
    · exact up (M.pt z hz d hd)
    · rw [List.mem_singleton.mp hd, ← List.append_assoc]
      exact List.mem_append_right _ (List.mem_singleton.mpr rfl)
theorem Mid.row {cs : List Ctr} {es rs la : List (Int × Int)} {i : Nat} (M : Mid cs es rs la i cs.length) : Mid cs es rs la (i + 1) 0 := ⟨M.nd, M.fr, fun j e hj he d hd => by
  by_cases q : j = i
  · rw [q] at he
    exact M.pt e he d (by rw [List.take_length]; exact hd)
  · exact M.dn j e (by omega) he d hd, fun e _ d h => by
  obtain ⟨_, _, c, hc, _⟩ := mem_nxt.mp h
  cases hc⟩
theorem Mid.tot {cs : List Ctr} {k a : Int} {es rs la : List (Int × Int)} {i j r : Nat} (F : Fnd cs k a es rs j) (M : Mid cs es rs la i r) {e : Int × Int} (h : e ∈ es ++ la) : e ∈ tot cs k a (j + 1) := by
  rcases List.mem_append.mp h with h | h
  · exact tot_up.mpr (.inl ((F.mem e).mp h))
  · obtain ⟨d, hd, hx⟩ := M.fr e h
    exact tot_up.mpr (.inr ⟨d, (F.mem d).mp (F.sub d hd), hx⟩)
theorem Mid.len {m : Nat} {cs : List Ctr} {k a : Int} {es rs la : List (Int × Int)} {i j r : Nat} (F : Fnd cs k a es rs j) (M : Mid cs es rs la i r) (hok : ∀ c ∈ cs, c.Ok (m : Int)) (l8 : cs.length ≤ 8) (h : j + 1 ≤ 6) : es.length + la.length ≤ 6553 := by
  have h1 := List.Nodup.length_le_of_subset M.nd fun e he => M.tot F he
  have h2 := (tot_len (a := a) (k := k) hok l8).2 (j + 1) h
  rw [List.length_append] at h1
  omega
theorem Mid.fnd {cs : List Ctr} {k a : Int} {es rs la : List (Int × Int)} {j : Nat} (F : Fnd cs k a es rs j) (M : Mid cs es rs la rs.length 0) : Fnd cs k a (es ++ la) la (j + 1) := by
  have all : ∀ e ∈ es, ∀ d ∈ nxt cs [e], d ∈ es ++ la := fun e he d hd => by
    by_cases q : e ∈ rs
    · obtain ⟨n, hn⟩ := List.mem_iff_getElem?.mp q
      exact M.dn n e (List.getElem?_eq_some_iff.mp hn).1 hn d hd
    · exact List.mem_append_left _ (F.cl e he q d hd)
  refine ⟨fun e => ⟨fun h => M.tot F h, fun h => ?_⟩, M.nd, fun e h => List.mem_append_right _ h, fun e he ne d hd => ?_⟩
  · rcases tot_up.mp h with h | ⟨d, hd, hx⟩
    · exact List.mem_append_left _ ((F.mem e).mpr h)
    · exact all d ((F.mem d).mpr hd) e hx
  · rcases List.mem_append.mp he with h | h
    · exact all e h d hd
    · exact absurd h ne
/-- the scope of the comprehension for each kind, as what stands within sees it -/
noncomputable def scIn : Scope := { kind := .function, names := [(".0", .local), ("_law_k", .cell), ("tuple", .globalImplicit), ("sorted", .globalImplicit), ("list", .globalImplicit), ("_law_known", .cell)], isGenerator := false, isCoroutine := false }
theorem ky_map {ks : List KV2} : ks.map kyD = (ks.map Prod.fst).map pairD := by
  rw [List.map_map]
  rfl
noncomputable def srtK (m : Nat) (es : List (Int × Int)) : PyData := .tuple ((List.range m).map fun j : Nat => .tuple ((sortI (ofK es (j : Int))).map PyData.int))
noncomputable def p_rea : Pm := pQ fun ds S => ∃ (m : Nat) (cs : List Ctr) (k a : Int) (N : Nat), ds = [boardD (m : Int) cs, .int k, .int a, .int (N : Int)] ∧ m ≤ 100 ∧ N ≤ 6 ∧ cs.length ≤ 8 ∧ (∀ c ∈ cs, c.Ok (m : Int)) ∧ S = fun d => ∃ es, (∀ e, e ∈ es ↔ e ∈ tot cs k a N) ∧ es.Nodup ∧ d = srtK m es
section
variable {P : Program} {w : World} {K : PySem.W.Frag} {mg : Str → Option Value} {base : Heap}
noncomputable def b_reached_0b1b0b1b1 (K : PySem.W.Frag) : AS K := (AS.append 7 (AA.cons (AE.prV K 14) (AA.nil K)))
noncomputable def b_reached_0b1b0b1b0 (K : PySem.W.Frag) : AS K := (AS.seq (AS.putD 5 14 (AE.var K 6)) (b_reached_0b1b0b1b1 K))
noncomputable def b_reached_0b1b0b1 (K : PySem.W.Frag) : AS K := (AS.ifS (AT.and (AT.test (AE.op (aEq K) (AE.var K 10) (AE.var K 8))) (AT.test (AE.niD 14 5))) (b_reached_0b1b0b1b0 K) (AS.nop K))
noncomputable def b_reached_0b1b0b0 (K : PySem.W.Frag) : AS K := (AS.seq (AS.setPr 14 (AE.var K 11) (AE.op (aMul K) (AE.op (aDv K) (AE.var K 9) (AE.var K 12)) (AE.var K 13))) (b_reached_0b1b0b1 K))
noncomputable def b_reached_0b1b0 (K : PySem.W.Frag) : AS K := (AS.for (AI.tup (AE.op (aIx K) (AE.var K 0) (AE.int K 1))) (AG.tup (AGs.cons 10 (AGs.cons 11 (AGs.cons 12 (AGs.cons 13 (AGs.nil K)))))) (b_reached_0b1b0b0 K))
noncomputable def b_reached_0b2 (K : PySem.W.Frag) : AS K := (AS.frz 7 (AS.set 4 (AE.var K 7)))
noncomputable def b_reached_0b1 (K : PySem.W.Frag) : AS K := (AS.seq (AS.for (AI.lst (AE.var K 4)) (AG.tup (AGs.cons 8 (AGs.cons 9 (AGs.nil K)))) (b_reached_0b1b0 K)) (b_reached_0b2 K))
noncomputable def b_reached_0b0 (K : PySem.W.Frag) : AS K := (AS.seq (AS.setOwn 7 (AF.lst (AA.nil K))) (b_reached_0b1 K))
noncomputable def b_reached_1 (K : PySem.W.Frag) : AS K := (AS.ret (AE.cb (aTup K) (AA.cons (AF.ae (AF.lc (AI.rng (AA.cons (AE.op (aIx K) (AE.var K 0) (AE.int K 0)) (AA.nil K))) (AG.name K 15) (AT.yes K) (AE.cb (aTup K) (AA.cons (AE.cb (aSortI K) (AA.cons (AF.ae (AF.lc (AI.lst (AF.ae (AF.keysD K 5))) (AG.tup (AGs.cons 8 (AGs.cons 9 (AGs.nil K)))) (AT.test (AE.op (aEq K) (AE.var K 8) (AE.var K 15))) (AE.var K 9) [8, 9] (show ∀ j ∈ (AG.tup (AGs.cons 8 (AGs.cons 9 (AGs.nil K)))).sl, j ∈ [8, 9] from fun _ h => h))) (AA.nil K))) (AA.nil K))) [15] (show ∀ j ∈ (AG.name K 15).sl, j ∈ [15] from fun _ h => h))) (AA.nil K))))
noncomputable def b_reached (K : PySem.W.Frag) : AS K := (AS.seq (AS.for (AI.rng (AA.cons (AE.var K 3) (AA.nil K))) (AG.name K 6) (b_reached_0b0 K)) (b_reached_1 K))
theorem ok_rea {f : Addr} {fd : FuncData} (h : Has K mg "_law_reached" sReached ["_law_board_here", "_law_kind", "_law_amount", "_law_steps"] f fd) (T : Bz mg) (T_sorted : mg "sorted" = none) : FnG P w K mg base CX0 1 f fd ["_law_board_here", "_law_kind", "_law_amount", "_law_steps"] (spA K p_rea) := by
  refine okDc (ik := 1) (ia := 2) (jr := 4) (jk := 5) h scReached (b_reached K) p_rea (fun cd A out s H E hgd hr => ⟨_, (pss_cons (ps_asg (pe_tup (pa_cons (pe_lst (pa_cons (pe_tup (pa_cons (pv 1) (pa_cons (pv 2) pa_nil))) pa_nil)) (pa_cons (pe_dispT1 (Nat.lt_of_le_of_lt (Nat.add_le_add_left (by decide) _) hr.units) (pe_tup (pa_cons (pv 1) (pa_cons (pv 2) pa_nil))) pe_int) pa_nil))) (pg_tup rfl (pgs_cons (pg_name (i := 4) scReached.nd rfl (Or.inl rfl)) (pgs_cons (pg_name (i := 5) scReached.nd rfl (Or.inr rfl)) pgs_nil))))
      (pss_cons (ps_for PassesOwn.never rfl (pi_range1 rfl T.z_range (pa_cons (pv 3) pa_nil)) (pg_name (i := 6) scReached.nd rfl (Or.inl rfl))
        (pss_cons (ps_set (i := 7) scReached.nd rfl (Or.inl rfl) (pe_lst pa_nil))
        (pss_cons (ps_for PassesOwn.never rfl (pi_list (pv 4)) (pg_tup rfl (pgs_cons (pg_name (i := 8) scReached.nd rfl (Or.inl rfl)) (pgs_cons (pg_name (i := 9) scReached.nd rfl (Or.inl rfl)) pgs_nil)))
          (pss_one (ps_for PassesOwn.never rfl (pi_tup (pe_ix (r := rIx K) ix_seq (pv 0) pe_int (fun _ _ => rfl))) (pg_tup rfl (pgs_cons (pg_name (i := 10) scReached.nd rfl (Or.inl rfl)) (pgs_cons (pg_name (i := 11) scReached.nd rfl (Or.inl rfl)) (pgs_cons (pg_name (i := 12) scReached.nd rfl (Or.inl rfl)) (pgs_cons (pg_name (i := 13) scReached.nd rfl (Or.inl rfl)) pgs_nil)))))
            (pss_cons (ps_set (i := 14) scReached.nd rfl (Or.inl rfl) (pe_tup (pa_cons (pv 11) (pa_cons (pe_op (r := rMulU K) op_mulU (pe_op op_dvU (pv 9) (pv 12)) (pv 13)) pa_nil))))
            (pss_one (ps_if (PW.pt (pw_and (pt_cmpR (r := rEqU K) (op_eqU hr.units) (pv 10) (pv 8) (nomark _)) (pw_and1 (pt_cmpR (r := rNotInD) (op_notInD (Nat.lt_of_le_of_lt (Nat.add_le_add_left (by decide) _) hr.units)) (pv 14) (pv 5) rfl))))
              (pss_cons (ps_dput (Nat.lt_of_le_of_lt (Nat.add_le_add_left (by decide) _) hr.units) (pv 5) (pv 14) (pv 6) rfl)
              (pss_one (ps_expr (pe_bm PySem.F.plainAttrs_list PySem.F.slot_list_append PySem.F.type_list_append mt_append (pv 7) (pa_cons (pv 14) pa_nil)))))
              pss_nil))))))
        (pss_one (ps_set (i := 4) scReached.nd rfl (Or.inl rfl) (pv 7))))))
      (pss_one (ps_ret (pe_callTy (r := rTupU K) call_tupU rfl T.z_tuple boot_tupleU (pa_cons (pe_lc (own := [("_law_k", 15)]) rfl scReached.nd (pi_range1 rfl T.z_range (pa_cons (pe_ix (r := rIx K) ix_seq (pv 0) pe_int (fun _ _ => rfl)) pa_nil)) (blkOk_by (N := NscReached) (sc := defScope sReached) (by decide +kernel)) (fun _ _ _ _ _ => (pg_name (i := 15) scReached.nd rfl (Or.inr rfl) (Or.inl rfl))) (fun _ _ _ _ _ => pts_nil) (fun _ _ _ _ _ => (pe_callTy (r := rTupU K) call_tupU rfl T.z_tuple boot_tupleU (pa_cons (pe_callB (r := rSortI K) (call_sortI hr.units) rfl T_sorted (by decide +kernel) (pa_cons (pe_lc (own := [("_law_here", 8), ("_law_coins_here", 9)]) rfl scReached.nd (pi_listK (K := K) (by exact pe_callTy (r := rLstD) (call_list_dT rfl) rfl T.z_list boot_listU (pa_cons (pv 5) pa_nil))) (blkOk_by (N := NscReached) (sc := scIn) (by decide +kernel)) (fun _ _ _ _ _ => (pg_tup rfl (pgs_cons (pg_name (i := 8) scReached.nd rfl (Or.inl rfl) (Or.inr rfl)) (pgs_cons (pg_name (i := 9) scReached.nd rfl (Or.inl rfl) (Or.inr rfl)) pgs_nil)))) (fun _ _ _ _ _ => (pts_one (pt_cmpR (r := rEqU K) (op_eqU hr.units) (pv 8) (pv 15) (nomark _)))) (fun _ _ _ _ _ => (pv 9))) pa_nil)) pa_nil)))) pa_nil)))))), by (simp_all [b_reached_0b1b0b1b1, b_reached_0b1b0b1b0, b_reached_0b1b0b1, b_reached_0b1b0b0, b_reached_0b1b0, b_reached_0b2, b_reached_0b1, b_reached_0b0, b_reached_1, b_reached]) <;> rfl⟩) (fun ds t k hw => ?_)
  obtain ⟨S, ⟨m, cs, k0, a, N, rfl, hm, hN, l8, hok, rfl⟩, hk⟩ := hw
  refine ⟨rfl, k0, a, rfl, rfl, ?_⟩
  show (b_reached K).wp [.dat (boardD (m : Int) cs), .dat (.int k0), .dat (.int a), .dat (.int (N : Int)), .dat (.list [pairD (k0, a)]), .ptr 0 (PDc 0), .un, .un, .un, .un, .un, .un, .un, .un, .un, .un] _ _
  simp_all only [b_reached]
  refine ⟨⟨by omega, by omega⟩, fun i e s => ∃ (ks : List KV2) (rs : List (Int × Int)) (y6 y7 y8 y9 y10 y11 y12 y13 y14 y15 : Sl), e = [.dat (boardD (m : Int) cs), .dat (.int k0), .dat (.int a), .dat (.int (N : Int)), .dat (.list (rs.map pairD)), .ptr 0 (PDc 0), y6, y7, y8, y9, y10, y11, y12, y13, y14, y15] ∧ s.o 0 "d" = some (dDat ks) ∧ Fnd cs k0 a (ks.map Prod.fst) rs i, ⟨[((k0, a), 0)], [(k0, a)], _, _, _, _, _, _, _, _, _, _, rfl, by rw [o_set], Fnd.zero⟩, ?_, ?_⟩
  · rintro i d e s hd ⟨ks, rs, y6, y7, y8, y9, y10, y11, y12, y13, y14, y15, rfl, eo, F⟩
    obtain ⟨hi, rfl⟩ := rng0_get hd
    have i6 : i + 1 ≤ 6 := by omega
    simp_all only [b_reached_0b0]
    simp_all only [b_reached_0b1]
    refine ⟨fun r e s => ∃ (ls : List KV2) (y8 y9 y10 y11 y12 y13 y14 y15 : Sl), e = [.dat (boardD (m : Int) cs), .dat (.int k0), .dat (.int a), .dat (.int (N : Int)), .dat (.list (rs.map pairD)), .ptr 0 (PDc 0), .dat (.int (i : Int)), .own ((ls.map Prod.fst).map pairD), y8, y9, y10, y11, y12, y13, y14, y15] ∧ s.o 0 "d" = some (dDat (ks ++ ls)) ∧ Mid cs (ks.map Prod.fst) rs (ls.map Prod.fst) r 0, ⟨[], _, _, _, _, _, _, _, _, rfl, by rw [List.append_nil]; exact eo, Mid.zero F.nd⟩, ?_, ?_⟩
    · rintro r d e s hd ⟨ls, y8, y9, y10, y11, y12, y13, y14, y15, rfl, eo, M⟩
      rw [List.getElem?_map] at hd
      cases hz : rs[r]? with
      | none => rw [hz] at hd; cases hd
      | some z =>
        rw [hz] at hd
        cases hd
        rw [show pairD z = .tuple [.int z.1, .int z.2] from rfl]
        simp_all only [b_reached_0b1b0]
        refine ⟨fun n e s => ∃ (ls : List KV2) (y10 y11 y12 y13 y14 y15 : Sl), e = [.dat (boardD (m : Int) cs), .dat (.int k0), .dat (.int a), .dat (.int (N : Int)), .dat (.list (rs.map pairD)), .ptr 0 (PDc 0), .dat (.int (i : Int)), .own ((ls.map Prod.fst).map pairD), .dat (.int z.1), .dat (.int z.2), y10, y11, y12, y13, y14, y15] ∧ s.o 0 "d" = some (dDat (ks ++ ls)) ∧ Mid cs (ks.map Prod.fst) rs (ls.map Prod.fst) r n, ⟨ls, _, _, _, _, _, _, rfl, eo, M⟩, ?_, ?_⟩
        · clear eo M ls
          rintro n d e s hd ⟨ls, y10, y11, y12, y13, y14, y15, rfl, eo, M⟩
          rw [List.getElem?_map] at hd
          cases hc : cs[n]? with
          | none => rw [hc] at hd; cases hd
          | some c =>
            rw [hc] at hd
            cases hd
            have co := hok c (List.mem_of_getElem? hc)
            have := co.g0; have := co.g1; have := co.e0; have := co.e1
            rw [show c.d = .tuple [.int c.s, .int c.t, .int c.g, .int c.e] from rfl]
            have ml := M.len F hok l8 i6
            rw [List.length_map, List.length_map] at ml
            simp_all only [b_reached_0b1b0b0]
            refine ⟨⟨by omega, by omega⟩, .inr ⟨by omega, by omega⟩, fun p => ?_⟩
            simp_all only [b_reached_0b1b0b1]
            by_cases hs : c.s = z.1
            · rw [decide_eq_true hs, if_pos rfl]
              refine ⟨_, eo, ?_⟩
              rw [List.map_append]
              by_cases hin : (c.t, z.2 / c.g * c.e) ∈ ks.map Prod.fst ++ ls.map Prod.fst
              · rw [decide_eq_true hin]
                try simp_all only []
                exact ⟨ls, _, _, _, _, _, _, rfl, eo, M.keep hz hc fun _ => hin⟩
              · rw [decide_eq_false hin]
                simp_all only [b_reached_0b1b0b1b0, b_reached_0b1b0b1b1]
                refine ⟨_, eo, by rw [List.map_append]; exact hin, by rw [List.length_append]; omega, ?_⟩
                try simp_all only []
                rw [show (ls.map Prod.fst).map pairD ++ [PyData.tuple [.int c.t, .int (z.2 / c.g * c.e)]] = ((ls ++ [((c.t, z.2 / c.g * c.e), (i : Int))]).map Prod.fst).map pairD by
                  rw [List.map_append, List.map_append]
                  rfl]
                refine ⟨by rw [List.length_map, List.length_map]; omega, ls ++ [((c.t, z.2 / c.g * c.e), (i : Int))], _, _, _, _, _, _, rfl, ?_, ?_⟩
                · rw [o_set, List.append_assoc]
                · rw [List.map_append]
                  exact M.add hz hc hs hin
            · rw [decide_eq_false hs]
              try simp_all only []
              exact ⟨ls, _, _, _, _, _, _, rfl, eo, M.keep hz hc fun q => absurd q hs⟩
        · rintro e s ⟨ls, y10, y11, y12, y13, y14, y15, rfl, eo, M⟩
          rw [List.length_map] at M
          exact ⟨ls, _, _, _, _, _, _, _, _, rfl, eo, M.row⟩
    · rintro e s ⟨ls, y8, y9, y10, y11, y12, y13, y14, y15, rfl, eo, M⟩
      rw [List.length_map] at M
      simp_all only [b_reached_0b2]
      exact ⟨ks ++ ls, ls.map Prod.fst, _, _, _, _, _, _, _, _, _, _, rfl, eo, by rw [List.map_append]; exact M.fnd F⟩
  · rintro e s ⟨ks, rs, y6, y7, y8, y9, y10, y11, y12, y13, y14, y15, rfl, eo, F⟩
    rw [rngD_length, show ((N : Int) - 0).toNat = N by omega] at F
    have l1 : ks.length ≤ 6553 := by
      have h1 := List.Nodup.length_le_of_subset F.nd fun e he => (F.mem e).mp he
      have h2 := (tot_len (a := a) (k := k0) hok l8).2 N hN
      rw [List.length_map] at h1
      omega
    simp_all only [b_reached_1]
    refine ⟨⟨by omega, by omega⟩, by rw [rngD_length]; omega, fun i acc s2 => s2 = s ∧ acc = (List.range i).map fun j : Nat => .tuple ((sortI (ofK (ks.map Prod.fst) (j : Int))).map PyData.int), ⟨rfl, rfl⟩, ?_, ?_⟩
    · rintro i d acc s2 hd ⟨rfl, rfl⟩
      obtain ⟨hi, rfl⟩ := rng0_get hd
      try simp_all only []
      refine ⟨ks, eo, by rw [List.length_map]; omega, fun n acc s3 => s3 = s2 ∧ acc = (ofK ((ks.map Prod.fst).take n) (i : Int)).map PyData.int, ⟨rfl, rfl⟩, ?_, ?_⟩
      · rintro n d acc s3 hd ⟨rfl, rfl⟩
        rw [ky_map, List.getElem?_map] at hd
        cases hq : (ks.map Prod.fst)[n]? with
        | none => rw [hq] at hd; cases hd
        | some z =>
          rw [hq] at hd
          cases hd
          have en : ofK ((ks.map Prod.fst).take (n + 1)) (i : Int) = ofK ((ks.map Prod.fst).take n) (i : Int) ++ (if z.1 = (i : Int) then [z.2] else []) := by
            rw [take_next hq]
            unfold ofK
            rw [List.filter_append, List.map_append, List.filter_cons, List.filter_nil]
            by_cases c : z.1 = (i : Int)
            · rw [if_pos (decide_eq_true c), if_pos c]
              rfl
            · rw [if_neg (by rw [decide_eq_true_iff]; exact c), if_neg c]
              rfl
          rw [show pairD z = .tuple [.int z.1, .int z.2] from rfl]
          try simp_all only []
          rw [en]
          by_cases c : z.1 = (i : Int)
          · rw [decide_eq_true c, if_pos rfl, if_pos c, List.map_append]
            exact rfl
          · rw [decide_eq_false c, if_neg (by decide), if_neg c, List.append_nil]
      · rintro acc s3 ⟨rfl, rfl⟩
        rw [List.length_map, show ks.length = (ks.map Prod.fst).length from (List.length_map _).symm, List.take_length]
        refine ⟨ofK (ks.map Prod.fst) (i : Int), rfl, ?_, ?_⟩
        · unfold ofK
          rw [List.length_map]
          refine Nat.le_trans (List.length_filter_le _ _) ?_
          rw [List.length_map]
          omega
        · try simp_all only []
          rw [List.range_succ, List.map_append]
          exact rfl
    · rintro acc s2 ⟨rfl, rfl⟩
      rw [rngD_length, show ((m : Int) - 0).toNat = m by omega]
      exact hk _ ⟨ks.map Prod.fst, F.mem, F.nd, rfl⟩
end
/-- what is known of the errors -/
structure Er12 (K : PySem.W.Frag) (mg : Str → Option Value) (A : Nat → Addr) : Prop where
  g12 : mg "TooMany" = some (.ref (A 12))
  g20 : mg "CoinError" = some (.ref (A 20))
  g21 : mg "BadRoute" = some (.ref (A 21))
  g22 : mg "TooLong" = some (.ref (A 22))
  zL : mg "LookupError" = none
  x12 : PySem.W.exmOne K (.ref (A 12)) (.ref (A 20)) = some true
  k12 : PySem.W.kitOne K (.ref (A 12)) (.ref (A 12)) = some true
  a12 : PySem.W.kitAny K (.ref (A 12)) [.ref (A 21), .type "LookupError", .ref (A 22)] = some false
  e12 : ExcC K (A 12)
noncomputable def x_amw : PXA := fun ds t kr kx => ∃ (b : PyData) (k a N : Int), ds = [b, .int k, .int a, .int N] ∧ 6 < N ∧ kx 12 (.int 6) t
noncomputable def p_told : Pm := pP fun ds d => ∃ (b : PyData) (k a N : Int), ds = [b, .int k, .int a, .int N] ∧ 6 < N ∧ d = .list [.int 6]
section
variable {P : Program} {w : World} {K : PySem.W.Frag} {mg : Str → Option Value} {base : Heap} {A : Nat → Addr}
noncomputable def b_Zamounts_within_2b1 {K : PySem.W.Frag} {A : Nat → Addr} {m : Dck} {B0 : Addr → Prop} {H0 : Hp} {W : WX} {kx : KX} (z : RzZ K m B0 H0 (erP A) W kx) : AX K m B0 H0 := (AX.of (AS.set 4 (AE.sortSet (AE.op (aAdd K) (AE.var K 4) (AE.var K 6)))))
noncomputable def b_Zamounts_within_2b0 {K : PySem.W.Frag} {A : Nat → Addr} {m : Dck} {B0 : Addr → Prop} {H0 : Hp} {W : WX} {kx : KX} (z : RzZ K m B0 H0 (erP A) W kx) : AX K m B0 H0 := (AX.seq (AX.of (AS.set 6 (AE.call p_anyc E0 (AA.cons (AE.var K 0) (AA.cons (AE.var K 4) (AA.nil K)))))) (b_Zamounts_within_2b1 z))
noncomputable def b_Zamounts_within_3 {K : PySem.W.Frag} {A : Nat → Addr} {m : Dck} {B0 : Addr → Prop} {H0 : Hp} {W : WX} {kx : KX} (z : RzZ K m B0 H0 (erP A) W kx) : AX K m B0 H0 := (AX.of (AS.ret (AE.cb (aTup K) (AA.cons (AF.ae (AF.lc (AI.rng (AA.cons (AE.op (aIx K) (AE.var K 0) (AE.int K 0)) (AA.nil K))) (AG.name K 7) (AT.yes K) (AE.call p_ofk E0 (AA.cons (AE.var K 4) (AA.cons (AE.var K 7) (AA.nil K)))) [7] (show ∀ j ∈ (AG.name K 7).sl, j ∈ [7] from fun _ h => h))) (AA.nil K)))))
noncomputable def b_Zamounts_within_2 {K : PySem.W.Frag} {A : Nat → Addr} {m : Dck} {B0 : Addr → Prop} {H0 : Hp} {W : WX} {kx : KX} (z : RzZ K m B0 H0 (erP A) W kx) : AX K m B0 H0 := (AX.seq (AX.for (AI.rng (AA.cons (AE.var K 3) (AA.nil K))) (AG.name K 5) (b_Zamounts_within_2b0 z)) (b_Zamounts_within_3 z))
noncomputable def b_Zamounts_within_1 {K : PySem.W.Frag} {A : Nat → Addr} {m : Dck} {B0 : Addr → Prop} {H0 : Hp} {W : WX} {kx : KX} (z : RzZ K m B0 H0 (erP A) W kx) : AX K m B0 H0 := (AX.seq (AX.of (AS.set 4 (AE.lst (AA.cons (AE.tup (AA.cons (AE.var K 1) (AA.cons (AE.var K 2) (AA.nil K)))) (AA.nil K))))) (b_Zamounts_within_2 z))
noncomputable def b_Zamounts_within {K : PySem.W.Frag} {A : Nat → Addr} {m : Dck} {B0 : Addr → Prop} {H0 : Hp} {W : WX} {kx : KX} (z : RzZ K m B0 H0 (erP A) W kx) : AX K m B0 H0 := (AX.seq (AX.ifS (AT.test (AE.op (aGt K) (AE.var K 3) (AE.int K 6))) (AX.zraise z 12 (fl := "bound") rfl (AE.int K 6)) (AX.of (AS.nop K))) (b_Zamounts_within_1 z))
theorem ok_amwZ {f f1 f2 f9 : Addr} {fd fd1 fd2 : FuncData} {u : Value} (h : Has K mg "amounts_within" sPAmounts_within ["board", "kind", "amount", "steps"] f fd) (T : Bz mg) (T_sorted : mg "sorted" = none) (T_set : mg "set" = none) (C_SMALL_STEPS : mg "SMALL_STEPS" = some u) (R_SMALL_STEPS : RelV (.int 6) u) (T_after_any_counter : Has K mg "after_any_counter" sPAfter_any_counter ["board", "had"] f1 fd1) (G_after_any_counter : FnG P w K mg base CX0 2 f1 fd1 ["board", "had"] (spA K p_anyc)) (T_amounts_of_kind : Has K mg "amounts_of_kind" sPAmounts_of_kind ["had", "kind"] f2 fd2) (G_amounts_of_kind : FnG P w K mg base CX0 1 f2 fd2 ["had", "kind"] (spA K p_ofk)) (L_TooMany : PySem.LowX_TooMany.LowTxt_TooMany K mg (A 12) f9) : FnG P w K mg base (L2.CX P w) 3 f fd ["board", "kind", "amount", "steps"] (spAX K (erP A) x_amw) := by
  refine okAX (erP A) h scPAmounts_within (fun z => b_Zamounts_within z) x_amw (fun cd Ar out s H E m B0 kx z hgd hr => ⟨_, (pss_cons (ps_if (pt_cmpR op_gt (pv 3) (pe_glob rfl C_SMALL_STEPS R_SMALL_STEPS) (nomark _))
        (pss_one (ps_raiseLow_TooMany rfl L_TooMany hr (takes_of rfl rfl rfl rfl) (by exact (pa_cons (pe_glob rfl C_SMALL_STEPS R_SMALL_STEPS) pa_nil))))
        pss_nil)
      (pss_cons (ps_set (i := 4) scPAmounts_within.nd rfl (Or.inr rfl) (pe_lst (pa_cons (pe_tup (pa_cons (pv 1) (pa_cons (pv 2) pa_nil))) pa_nil)))
      (pss_cons (ps_for (passes_of rfl) rfl (pi_range1 rfl T.z_range (pa_cons (pv 3) pa_nil)) (pg_name (i := 5) scPAmounts_within.nd rfl (Or.inl rfl))
        (pss_cons (ps_set (i := 6) scPAmounts_within.nd rfl (Or.inl rfl) (pe_callG G_after_any_counter hgd (hr.mono (by decide)) rfl T_after_any_counter.m T_after_any_counter.F.kp T_after_any_counter.b .nil pass0 (pa_cons (pv 0) (pa_cons (pv 4) pa_nil))))
        (pss_one (ps_set (i := 4) scPAmounts_within.nd rfl (Or.inr rfl) (pe_sortSet hr.units rfl T_sorted rfl T_set (pe_op (r := rAddU K) op_addU (pv 4) (pv 6)))))))
      (pss_one (ps_ret (pe_callTy (r := rTupU K) call_tupU rfl T.z_tuple boot_tupleU (pa_cons (pe_lc (own := [("each", 7)]) rfl scPAmounts_within.nd (pi_range1 rfl T.z_range (pa_cons (pe_ix (r := rIx K) ix_seq (pv 0) pe_int (fun _ _ => rfl)) pa_nil)) (blkOk_by (N := NscPAmounts_within) (sc := defScope sPAmounts_within) (by decide +kernel)) (fun _ _ _ _ _ => (pg_name (i := 7) scPAmounts_within.nd rfl (Or.inl rfl))) (fun _ _ _ _ _ => pts_nil) (fun _ _ _ _ _ => (pe_callG G_amounts_of_kind hgd (hr.mono (by decide)) rfl T_amounts_of_kind.m T_amounts_of_kind.F.kp T_amounts_of_kind.b .nil pass0 (pa_cons (pv 4) (pa_cons (pv 7) pa_nil))))) pa_nil))))))), by (simp_all [b_Zamounts_within_2b1, b_Zamounts_within_2b0, b_Zamounts_within_3, b_Zamounts_within_2, b_Zamounts_within_1, b_Zamounts_within]) <;> rfl⟩) (fun ds t kr kx hw => ?_)
  obtain ⟨b, k0, a, N, rfl, hN, hk⟩ := hw
  refine ⟨rfl, fun M B0 H0 W z => ?_⟩
  show (b_Zamounts_within z).wp [.dat b, .dat (.int k0), .dat (.int a), .dat (.int N), .un, .un, .un, .un] t _
  simp_all only [b_Zamounts_within]
  rw [decide_eq_true (show (6 : Int) < N by omega), if_pos rfl]
  exact hk
noncomputable def b_told (K : PySem.W.Frag) (A : Nat → Addr) : AS K := (AS.tryY (er := erP A) (i := 4) (A 20) .ret (AEY.callA x_amw (AA.cons (AE.var K 0) (AA.cons (AE.var K 1) (AA.cons (AE.var K 2) (AA.cons (AE.var K 3) (AA.nil K)))))) (HS.setS 5 (by decide) (HE.isEs [(.ref (A 21)), (.ty "LookupError"), (.ref (A 22))]) (HS.ret (HE.ifx (HT.and (HT.b (HE.isE (.ref (A 12)))) (HT.of (AT.not (AT.b (AE.var K 5))))) (HE.lst (HA.cons (HE.fld (A 12) "bound") HA.nil)) (HE.of (AE.lst (AA.cons (AE.str K "other") (AA.nil K))))))))
theorem ok_told {f f1 f9 : Addr} {fd fd1 : FuncData} (h : Has K mg "_law_told" sTold ["_law_board_here", "_law_kind", "_law_amount", "_law_steps"] f fd) (T : Bz mg) (T_amounts_within : Has K mg "amounts_within" sPAmounts_within ["board", "kind", "amount", "steps"] f1 fd1) (GZ_amounts_within : FnG P w K mg base (L2.CX P w) 3 f1 fd1 ["board", "kind", "amount", "steps"] (spAX K (erP A) x_amw)) (L_TooMany : PySem.LowX_TooMany.LowTxt_TooMany K mg (A 12) f9) (X : Er12 K mg A) : FnG P w K mg base CX0 4 f fd ["_law_board_here", "_law_kind", "_law_amount", "_law_steps"] (spA K p_told) := by
  have g_TooMany := X.g12; have g_CoinError := X.g20; have g_BadRoute := X.g21; have g_TooLong := X.g22; have T_LookupError := X.zL
  refine okA h scTold (b_told K A) p_told (fun cd Ar out s H E hgd hr => ⟨_, (pss_one (ps_try_as (i := 4) rfl rfl scTold.nd rfl rfl ⟨rfl, by decide, .inl g_CoinError⟩ takes0 (fun W pn xe tk _ => pss_one (ps_ret (pe_callSG GZ_amounts_within hgd (hr.mono (by decide)) rfl T_amounts_within.m T_amounts_within.F.kp T_amounts_within.b (fun σ => passAt tk σ) (pa_cons (pv 0) (pa_cons (pv 1) (pa_cons (pv 2) (pa_cons (pv 3) pa_nil))))))) (fun a oe cls d pn hz hf => (pss_cons (ps_set (i := 5) scTold.nd rfl (Or.inl rfl) (pe_callB (call_isE hz hf) rfl T.z_isinstance boot_isinstance (pa_cons (pv 4) (pa_cons (pe_tup (pa_cons (pe_ref rfl g_BadRoute) (pa_cons (pe_ty rfl T_LookupError (show bootBuiltins "LookupError" = some (.type "LookupError") by decide +kernel)) (pa_cons (pe_ref rfl g_TooLong) pa_nil)))) pa_nil))))
      (pss_one (ps_ret (pe_ifExp (PW.pt (pw_and (pt_val (pe_callB (call_isE hz hf) rfl T.z_isinstance boot_isinstance (pa_cons (pv 4) (pa_cons (pe_ref rfl g_TooMany) pa_nil)))) (pw_and1 (pt_not (pt_val (pv 5)))))) (pe_lst (pa_cons (pe_byLow_TooMany L_TooMany hz hf (pv 4)) pa_nil)) (pe_lst (pa_cons pe_str pa_nil))))))))), by (simp_all [b_told]) <;> rfl⟩) (fun ds t k hw => ?_)
  obtain ⟨d, ⟨b, k0, a, N, rfl, hN, rfl⟩, hk⟩ := hw
  refine ⟨rfl, ?_⟩
  show (b_told K A).wp [.dat b, .dat (.int k0), .dat (.int a), .dat (.int N), .un, .un] t _
  simp_all only [b_told]
  exact ⟨by decide, b, k0, a, N, rfl, hN, X.x12, _, false, rfl, X.a12, X.e12, _, true, rfl, X.k12, X.e12, rfl, rfl, hk⟩
end
theorem ok_str (s : String) : PyData.strOk (Str.ofString s) = true := by
  rw [Str.ofString_eq_toList]
  unfold PyData.strOk
  simp only [List.all_toArray, List.all_map, List.all_eq_true]
  intro c _
  have v := c.valid
  simp only [UInt32.isValidChar, Nat.isValidChar] at v
  simp only [Function.comp, decide_eq_true_eq]
  show c.val.toNat < 1114112
  omega
theorem ok_app {a b : Str} (ha : PyData.strOk a = true) (hb : PyData.strOk b = true) : PyData.strOk (a ++ b) = true := by
  unfold PyData.strOk at *
  rw [PySem.Str.cps_append, Array.all_append, ha, hb]
  rfl
theorem ok_join : ∀ {ts : List Str}, (∀ t ∈ ts, PyData.strOk t = true) → PyData.strOk (Str.join ", " ts) = true
  | [], _ => ok_str ""
  | [x], h => h x List.mem_cons_self
  | x :: y :: r, h => by
    show PyData.strOk (x ++ ", " ++ Str.join ", " (y :: r)) = true
    exact ok_app (ok_app (h x List.mem_cons_self) (ok_str ", ")) (ok_join fun t ht => h t (List.mem_cons_of_mem _ ht))
theorem ok_tupT {ts : List Str} (h : ∀ t ∈ ts, PyData.strOk t = true) : PyData.strOk (tupleText ts) = true := by
  unfold tupleText
  refine ok_app (ok_app (ok_str "(") (ok_join h)) ?_
  split
  · exact ok_str _
  · exact ok_str _
theorem ok_shA : ∀ {ds : List PyData}, (∀ d ∈ ds, PyData.strOk d.shown = true) → ∀ t ∈ PyData.shownAll ds, PyData.strOk t = true
  | [], _, t, ht => by
    rw [PyData.shownAll] at ht
    cases ht
  | d :: ds, h, t, ht => by
    rw [PyData.shownAll] at ht
    rcases List.mem_cons.mp ht with e | ht
    · rw [e]
      exact h d List.mem_cons_self
    · exact ok_shA (ds := ds) (fun x hx => h x (List.mem_cons_of_mem _ hx)) t ht
theorem ok_shT {ds : List PyData} (h : ∀ d ∈ ds, PyData.strOk d.shown = true) : PyData.strOk (PyData.tuple ds).shown = true := by
  rw [show (PyData.tuple ds).shown = tupleText (PyData.shownAll ds) by simp only [PyData.shown]]
  exact ok_tupT (ok_shA h)
theorem ok_srt {m : Nat} {es : List (Int × Int)} : PyData.strOk (srtK m es).shown = true := ok_shT fun d hd => by
  obtain ⟨j, _, rfl⟩ := List.mem_map.mp hd
  refine ok_shT fun x hx => ?_
  obtain ⟨v, _, rfl⟩ := List.mem_map.mp hx
  rw [PyData.shown_int]
  exact ok_str (toString v)
theorem sm_sum {n : Nat} {f : PyData → Nat} : ∀ {ds : List PyData}, (∀ d ∈ ds, Sm n (f d) d) →
    PyData.showableAll ds = true ∧ PyData.hasDictAll ds = false ∧ PyData.depthAll ds ≤ n ∧ ((PyData.shownAll ds).map (·.length)).sum ≤ (ds.map f).sum
  | [], _ => by simp [PyData.showableAll, PyData.hasDictAll, PyData.depthAll, PyData.shownAll]
  | d :: ds, h => by
    obtain ⟨h1, h2, h3, h4⟩ := sm_sum (ds := ds) fun x hx => h x (List.mem_cons_of_mem _ hx)
    have k := h d List.mem_cons_self
    refine ⟨?_, ?_, ?_, ?_⟩
    · rw [PyData.showableAll, k.sh, h1]
      rfl
    · rw [PyData.hasDictAll, k.nd, h2]
      rfl
    · rw [PyData.depthAll]
      exact Nat.max_le.mpr ⟨k.dp, h3⟩
    · rw [PyData.shownAll, List.map_cons, List.sum_cons, List.map_cons, List.sum_cons]
      have := k.ln
      omega
theorem sm_tupS {n : Nat} {f : PyData → Nat} {ds : List PyData} (h : ∀ d ∈ ds, Sm n (f d) d) : Sm (n + 1) ((ds.map f).sum + 2 * ds.length + 3) (.tuple ds) := by
  obtain ⟨h1, h2, h3, h4⟩ := sm_sum h
  refine ⟨by simpa only [PyData.showable] using h1, by simpa only [PyData.hasDict] using h2, by simp only [PyData.depth]; omega, ?_⟩
  have := tupleText_len_le (PyData.shownAll ds)
  simp only [PyData.shown]
  rw [PyData.shownAll_length] at this
  omega
theorem flt_two (m : Nat) : ∀ es : List (Int × Int), (es.filter fun e => decide (e.1 < (m : Int))).length + (es.filter fun e => decide (e.1 = (m : Int))).length ≤ (es.filter fun e => decide (e.1 < ((m + 1 : Nat) : Int))).length
  | [] => Nat.le_refl _
  | e :: es => by
    have ih := flt_two m es
    simp only [List.filter_cons]
    by_cases c1 : e.1 < (m : Int)
    · rw [if_pos (decide_eq_true c1), if_neg (by rw [decide_eq_true_iff]; omega), if_pos (decide_eq_true (by omega))]
      simp only [List.length_cons]
      omega
    · rw [if_neg (by rw [decide_eq_true_iff]; exact c1)]
      by_cases c2 : e.1 = (m : Int)
      · rw [if_pos (decide_eq_true c2), if_pos (decide_eq_true (by omega))]
        simp only [List.length_cons]
        omega
      · rw [if_neg (by rw [decide_eq_true_iff]; exact c2), if_neg (by rw [decide_eq_true_iff]; omega)]
        exact ih
theorem sum_ofK {es : List (Int × Int)} : ∀ m : Nat, ((List.range m).map fun j : Nat => (ofK es (j : Int)).length).sum ≤ (es.filter fun e => decide (e.1 < (m : Int))).length
  | 0 => Nat.zero_le _
  | m + 1 => by
    have ih := sum_ofK (es := es) m
    have f := flt_two m es
    rw [List.range_succ, List.map_append, List.sum_append]
    have q : (ofK es (m : Int)).length = (es.filter fun e => decide (e.1 = (m : Int))).length := by
      unfold ofK
      rw [List.length_map]
    simp only [List.map_cons, List.map_nil, List.sum_cons, List.sum_nil]
    omega
theorem tot_val {m : Nat} {cs : List Ctr} {k a : Int} (hok : ∀ c ∈ cs, c.Ok (m : Int)) (a0 : 0 ≤ a) : ∀ {n : Nat} {e : Int × Int}, e ∈ tot cs k a n → 0 ≤ e.2 ∧ e.2 ≤ a * 5 ^ n
  | 0, e, h => by
    rw [List.mem_singleton.mp h]
    exact ⟨a0, by show a ≤ a * 5 ^ 0; omega⟩
  | n + 1, e, h => by
    have up : a * 5 ^ (n + 1) = a * 5 ^ n * 5 := by rw [Int.pow_succ, Int.mul_assoc]
    rcases tot_up.mp h with h | ⟨d, hd, hx⟩
    · obtain ⟨h1, h2⟩ := tot_val hok a0 h
      exact ⟨h1, by omega⟩
    · obtain ⟨h1, h2⟩ := tot_val hok a0 hd
      obtain ⟨d', hd', c, hc, _, rfl⟩ := mem_nxt.mp hx
      rw [List.mem_singleton.mp hd']
      have co := hok c hc
      have := co.g0; have := co.e0; have := co.e1
      have q0 : 0 ≤ d.2 / c.g := Int.ediv_nonneg h1 (by omega)
      have q1 : d.2 / c.g ≤ d.2 := Int.ediv_le_self _ h1
      have q2 : d.2 / c.g * c.e ≤ d.2 / c.g * 5 := Int.mul_le_mul_of_nonneg_left (by omega) q0
      exact ⟨Int.mul_nonneg q0 (by omega), by show d.2 / c.g * c.e ≤ _; omega⟩
theorem shx_srt {m : Nat} {cs : List Ctr} {k a : Int} {N : Nat} {es : List (Int × Int)} (hok : ∀ c ∈ cs, c.Ok (m : Int)) (l8 : cs.length ≤ 8) (m4 : m ≤ 4) (hN : N ≤ 6) (a0 : 0 ≤ a) (a1 : a ≤ 1000000000000) (hm : ∀ e, e ∈ es ↔ e ∈ tot cs k a N) (nd : es.Nodup) : Shx (srtK m es) := by
  have le : es.length ≤ 6553 := by
    have h1 := List.Nodup.length_le_of_subset nd fun e he => (hm e).mp he
    have h2 := (tot_len (a := a) (k := k) hok l8).2 N hN
    omega
  have big : ∀ j v, v ∈ ofK es j → v.natAbs < 2 ^ 54 := fun j v h => by
    obtain ⟨h1, h2⟩ := tot_val hok a0 ((hm _).mp (mem_ofK.mp h))
    have h3 : a * 5 ^ N ≤ 1000000000000 * 15625 := by
      rcases (show N = 0 ∨ N = 1 ∨ N = 2 ∨ N = 3 ∨ N = 4 ∨ N = 5 ∨ N = 6 by omega) with rfl | rfl | rfl | rfl | rfl | rfl | rfl <;> omega
    dsimp only at h1 h2
    omega
  have each : ∀ j : Nat, Sm 1 (58 * (ofK es (j : Int)).length + 3) (.tuple ((sortI (ofK es (j : Int))).map PyData.int)) := fun j => by
    refine (sm_tup (n := 0) (m := 56) fun d hd => ?_).mono (Nat.le_refl _) ?_
    · obtain ⟨v, hv, rfl⟩ := List.mem_map.mp hd
      exact sm_intB (by decide) (by decide) (big _ v ((sortI_perm _).mem_iff.mp hv))
    · rw [List.length_map, (sortI_perm _).length_eq]
      omega
  have lenT : ∀ j : Nat, (match PyData.tuple ((sortI (ofK es (j : Int))).map PyData.int) with | .tuple ds => 58 * ds.length + 3 | _ => 0) = 58 * (ofK es (j : Int)).length + 3 := fun j => by
    show 58 * ((sortI (ofK es (j : Int))).map PyData.int).length + 3 = _
    rw [List.length_map, (sortI_perm _).length_eq]
  have S := sm_tupS (n := 1) (f := fun d => match d with | .tuple ds => 58 * ds.length + 3 | _ => 0) (ds := (List.range m).map fun j : Nat => PyData.tuple ((sortI (ofK es (j : Int))).map PyData.int)) fun d hd => by
    obtain ⟨j, _, rfl⟩ := List.mem_map.mp hd
    rw [lenT]
    exact each j
  refine .inl (S.mono (by decide) ?_)
  have q : (((List.range m).map fun j : Nat => PyData.tuple ((sortI (ofK es (j : Int))).map PyData.int)).map fun d => match d with | .tuple ds => 58 * ds.length + 3 | _ => 0).sum = 58 * ((List.range m).map fun j : Nat => (ofK es (j : Int)).length).sum + 3 * m := by
    rw [List.map_map]
    have gen : ∀ n, ((List.range n).map fun j : Nat => 58 * (ofK es (j : Int)).length + 3).sum = 58 * ((List.range n).map fun j : Nat => (ofK es (j : Int)).length).sum + 3 * n := fun n => by
      induction n with
      | zero => rfl
      | succ n ih =>
        rw [List.range_succ, List.map_append, List.map_append, List.sum_append, List.sum_append, ih]
        simp only [List.map_cons, List.map_nil, List.sum_cons, List.sum_nil]
        omega
    rw [← gen]
    refine congrArg List.sum (List.map_congr_left fun j _ => ?_)
    exact lenT j
  have s := sum_ofK (es := es) m
  have f := List.length_filter_le (fun e : Int × Int => decide (e.1 < (m : Int))) es
  rw [q, List.length_map, List.length_range]
  omega
theorem tup_srt {m : Nat} {cs : List Ctr} {k a : Int} {N : Nat} {es fs : List (Int × Int)} (R : Hav cs k a es N) (hm : ∀ e, e ∈ fs ↔ e ∈ tot cs k a N) (nd : fs.Nodup) : tupK m es = srtK m fs := by
  unfold tupK srtK ofD
  congr 1
  refine List.map_congr_left fun j _ => ?_
  rw [R.uniq hm nd]
section
variable {P : Program} {w : World} {K : PySem.W.Frag} {mg : Str → Option Value} {base : Heap}
noncomputable def b_law_0b2b2 (K : PySem.W.Frag) : AS K := (AS.ifS (AT.or (AT.test (AE.op (aNe K) (AE.var K 9) (AE.lst (AA.cons (AE.var K 8) (AA.cons (AE.var K 8) (AA.nil K)))))) (AT.test (AE.op (aNe K) (AE.cb (aRepr K) (AA.cons (AE.var K 3) (AA.nil K))) (AE.var K 7)))) (AS.ret (AE.bl K false)) (AS.nop K))
noncomputable def b_law_0b2b1 (K : PySem.W.Frag) : AS K := (AS.seq (AS.set 9 (AF.ae (AF.lc (AI.rng (AA.cons (AE.int K 2) (AA.nil K))) (AG.name K 10) (AT.yes K) (AE.cb (aRepr K) (AA.cons (AE.call p_amw E0 (AA.cons (AE.var K 3) (AA.cons (AE.var K 4) (AA.cons (AE.var K 5) (AA.cons (AE.var K 6) (AA.nil K)))))) (AA.nil K))) [10] (show ∀ j ∈ (AG.name K 10).sl, j ∈ [10] from fun _ h => h)))) (b_law_0b2b2 K))
noncomputable def b_law_0b2b0 (K : PySem.W.Frag) : AS K := (AS.seq (AS.par 7 8 (AA.cons (AE.cb (aRepr K) (AA.cons (AE.var K 3) (AA.nil K))) (AA.cons (AE.cb (aRepr K) (AA.cons (AE.call p_rea E0 (AA.cons (AE.var K 3) (AA.cons (AE.var K 4) (AA.cons (AE.var K 5) (AA.cons (AE.var K 6) (AA.nil K)))))) (AA.nil K))) (AA.nil K)))) (b_law_0b2b1 K))
noncomputable def b_law_0b3b0 (K : PySem.W.Frag) : AS K := (AS.ifS (AT.test (AE.op (aNe K) (AE.cb (aRepr K) (AA.cons (AE.call p_told E0 (AA.cons (AE.var K 3) (AA.cons (AE.var K 4) (AA.cons (AE.var K 5) (AA.cons (AE.var K 6) (AA.nil K)))))) (AA.nil K))) (AE.str K "[6]"))) (AS.ret (AE.bl K false)) (AS.nop K))
noncomputable def b_law_0b3 (K : PySem.W.Frag) : AS K := (AS.for (AI.lst (AE.lst (AA.cons (AE.int K 7) (AA.cons (AE.op (aAdd K) (AE.int K 8) (AE.callD MB p_draw E0 1 (AA.cons (AE.int K 90) (AA.nil K)))) (AA.cons (AE.op (aPow K) (AE.int K 10) (AE.int K 29)) (AA.nil K)))))) (AG.name K 6) (b_law_0b3b0 K))
noncomputable def b_law_0b2 (K : PySem.W.Frag) : AS K := (AS.seq (AS.for (AI.lst (AE.lst (AA.cons (AE.int K 0) (AA.cons (AE.int K 1) (AA.cons (AE.int K 2) (AA.cons (AE.op (aAdd K) (AE.int K 2) (AE.callD MB p_draw E0 1 (AA.cons (AE.int K 3) (AA.nil K)))) (AA.cons (AE.op (aAdd K) (AE.int K 5) (AE.callD MB p_draw E0 1 (AA.cons (AE.int K 2) (AA.nil K)))) (AA.nil K)))))))) (AG.name K 6) (b_law_0b2b0 K)) (b_law_0b3 K))
noncomputable def b_law_0b1 (K : PySem.W.Frag) : AS K := (AS.seq (AS.asg (AE.tup (AA.cons (AE.callD MB p_draw E0 1 (AA.cons (AE.op (aIx K) (AE.var K 3) (AE.int K 0)) (AA.nil K))) (AA.cons (AE.callD MB p_coins E0 1 (AA.nil K)) (AA.nil K)))) (AG.tup (AGs.cons 4 (AGs.cons 5 (AGs.nil K))))) (b_law_0b2 K))
noncomputable def b_law_0b0 (K : PySem.W.Frag) : AS K := (AS.seq (AS.set 3 (AE.callD MB p_board E0 1 (AA.nil K))) (b_law_0b1 K))
noncomputable def b_law_1 (K : PySem.W.Frag) : AS K := (AS.ret (AE.bl K true))
noncomputable def b_law (K : PySem.W.Frag) : AS K := (AS.seq (AS.for (AI.rng (AA.cons (AE.int K 8) (AA.nil K))) (AG.name K 2) (b_law_0b0 K)) (b_law_1 K))
theorem ok_law {f f1 f2 f3 f4 f5 f6 f7 : Addr} {fd fd1 fd2 fd3 fd4 fd5 fd6 fd7 : FuncData} (h : Has K mg "law" sLaw ["_law_script"] f fd) (T : Bz mg) (T_deck : Has K mg "_law_deck" sDeck ["_law_script"] f1 fd1) (G_deck : FnG P w K mg base CX0 1 f1 fd1 ["_law_script"] (spM K MB)) (T_draw : Has K mg "_law_draw" sDraw ["_law_deck_here", "_law_bound"] f2 fd2) (G_draw : FnG P w K mg base CX0 1 f2 fd2 ["_law_deck_here", "_law_bound"] (spD K MB p_draw)) (T_board : Has K mg "_law_board" sBoard ["_law_deck_here"] f3 fd3) (G_board : FnG P w K mg base CX0 2 f3 fd3 ["_law_deck_here"] (spD K MB p_board)) (T_coins : Has K mg "_law_coins" sCoins ["_law_deck_here"] f4 fd4) (G_coins : FnG P w K mg base CX0 2 f4 fd4 ["_law_deck_here"] (spD K MB p_coins))
    (T_reached : Has K mg "_law_reached" sReached ["_law_board_here", "_law_kind", "_law_amount", "_law_steps"] f5 fd5) (G_reached : FnG P w K mg base CX0 1 f5 fd5 ["_law_board_here", "_law_kind", "_law_amount", "_law_steps"] (spA K p_rea)) (T_amounts_within : Has K mg "amounts_within" sPAmounts_within ["board", "kind", "amount", "steps"] f6 fd6) (G_amounts_within : FnG P w K mg base CX0 3 f6 fd6 ["board", "kind", "amount", "steps"] (spA K p_amw)) (T_told : Has K mg "_law_told" sTold ["_law_board_here", "_law_kind", "_law_amount", "_law_steps"] f7 fd7) (G_told : FnG P w K mg base CX0 4 f7 fd7 ["_law_board_here", "_law_kind", "_law_amount", "_law_steps"] (spA K p_told)) : FnG P w K mg base CX0 5 f fd ["_law_script"] (spLaw K) := by
  refine okLaw h scLaw (b_law K) (fun cd A out s H E hgd hr => ⟨_, (pss_cons (ps_set (i := 1) scLaw.nd rfl (Or.inl rfl) (pe_callG G_deck hgd (hr.mono (by decide)) rfl T_deck.m T_deck.F.kp T_deck.b .nil pass0 (pa_cons (pv 0) pa_nil)))
      (pss_cons (ps_for PassesOwn.never rfl (pi_range1 rfl T.z_range (pa_cons pe_int pa_nil)) (pg_name (i := 2) scLaw.nd rfl (Or.inl rfl))
        (pss_cons (ps_set (i := 3) scLaw.nd rfl (Or.inr rfl) (pe_callG G_board hgd (hr.mono (by decide)) rfl T_board.m T_board.F.kp T_board.b .nil pass0 (pa_cons (pv 1) pa_nil)))
        (pss_cons (ps_asg (pe_tup (pa_cons (pe_callG G_draw hgd (hr.mono (by decide)) rfl T_draw.m T_draw.F.kp T_draw.b .nil pass0 (pa_cons (pv 1) (pa_cons (pe_ix (r := rIx K) ix_seq (pv 3) pe_int (fun _ _ => rfl)) pa_nil))) (pa_cons (pe_callG G_coins hgd (hr.mono (by decide)) rfl T_coins.m T_coins.F.kp T_coins.b .nil pass0 (pa_cons (pv 1) pa_nil)) pa_nil))) (pg_tup rfl (pgs_cons (pg_name (i := 4) scLaw.nd rfl (Or.inr rfl)) (pgs_cons (pg_name (i := 5) scLaw.nd rfl (Or.inr rfl)) pgs_nil))))
        (pss_cons (ps_for PassesOwn.never rfl (pi_list (pe_lst (pa_cons pe_int (pa_cons pe_int (pa_cons pe_int (pa_cons (pe_op (r := rAddU K) op_addU pe_int (pe_callG G_draw hgd (hr.mono (by decide)) rfl T_draw.m T_draw.F.kp T_draw.b .nil pass0 (pa_cons (pv 1) (pa_cons pe_int pa_nil)))) (pa_cons (pe_op (r := rAddU K) op_addU pe_int (pe_callG G_draw hgd (hr.mono (by decide)) rfl T_draw.m T_draw.F.kp T_draw.b .nil pass0 (pa_cons (pv 1) (pa_cons pe_int pa_nil)))) pa_nil))))))) (pg_name (i := 6) scLaw.nd rfl (Or.inr rfl))
          (pss_cons (ps_par (i := 7) (j := 8) rfl scLaw.nd rfl rfl (by decide) rfl rfl (pa_cons (pe_callB (r := rRepr K) (call_reprD hgd hr.units) rfl T.z_repr boot_repr (pa_cons (pv 3) pa_nil)) (pa_cons (pe_callB (r := rRepr K) (call_reprD hgd hr.units) rfl T.z_repr boot_repr (pa_cons (pe_callG G_reached hgd (hr.mono (by decide)) rfl T_reached.m T_reached.F.kp T_reached.b .nil pass0 (pa_cons (pv 3) (pa_cons (pv 4) (pa_cons (pv 5) (pa_cons (pv 6) pa_nil))))) pa_nil)) pa_nil)) rfl)
          (pss_cons (ps_setLc (i := 9)  (own := [("_law_again", 10)]) rfl scLaw.nd rfl rfl (sw_true rfl rfl rfl (by decide +kernel)) (pi_range1 rfl T.z_range (pa_cons pe_int pa_nil)) (blkOk_by (N := NscLaw) (sc := defScope sLaw) (by decide +kernel)) (fun _ _ _ _ _ => (pg_name (i := 10) scLaw.nd rfl (Or.inl rfl))) (fun _ _ _ _ _ => pts_nil) (fun _ _ _ _ _ => (pe_callB (r := rRepr K) (call_reprD hgd hr.units) rfl T.z_repr boot_repr (pa_cons (pe_callG G_amounts_within hgd (hr.mono (by decide)) rfl T_amounts_within.m T_amounts_within.F.kp T_amounts_within.b .nil pass0 (pa_cons (pv 3) (pa_cons (pv 4) (pa_cons (pv 5) (pa_cons (pv 6) pa_nil))))) pa_nil))))
          (pss_one (ps_if (PW.pt (pw_or (pt_cmpR (r := rNeU K) (op_neU hr.units) (pv 9) (pe_lst (pa_cons (pv 8) (pa_cons (pv 8) pa_nil))) (nomark _)) (pw_or1 (pt_cmpR (r := rNeU K) (op_neU hr.units) (pe_callB (r := rRepr K) (call_reprD hgd hr.units) rfl T.z_repr boot_repr (pa_cons (pv 3) pa_nil)) (pv 7) (nomark _)))))
            (pss_one (ps_ret pe_bl))
            pss_nil)))))
        (pss_one (ps_for PassesOwn.never rfl (pi_list (pe_lst (pa_cons pe_int (pa_cons (pe_op (r := rAddU K) op_addU pe_int (pe_callG G_draw hgd (hr.mono (by decide)) rfl T_draw.m T_draw.F.kp T_draw.b .nil pass0 (pa_cons (pv 1) (pa_cons pe_int pa_nil)))) (pa_cons (pe_op op_pow pe_int pe_int) pa_nil))))) (pg_name (i := 6) scLaw.nd rfl (Or.inr rfl))
          (pss_one (ps_if (pt_cmpR (r := rNeU K) (op_neU hr.units) (pe_callB (r := rRepr K) (call_reprD hgd hr.units) rfl T.z_repr boot_repr (pa_cons (pe_callG G_told hgd (hr.mono (by decide)) rfl T_told.m T_told.F.kp T_told.b .nil pass0 (pa_cons (pv 3) (pa_cons (pv 4) (pa_cons (pv 5) (pa_cons (pv 6) pa_nil))))) pa_nil)) pe_str (nomark _))
            (pss_one (ps_ret pe_bl))
            pss_nil))))))))
      (pss_one (ps_ret pe_bl)))), by (simp_all [b_law_0b2b2, b_law_0b2b1, b_law_0b2b0, b_law_0b3b0, b_law_0b3, b_law_0b2, b_law_0b1, b_law_0b0, b_law_1, b_law]) <;> rfl⟩) (by decide) ?_
  show (b_law K).wp [.un, .deck MB, _, _, _, _, _, _, _, _, _] 0 _
  simp_all only [b_law]
  refine ⟨fun i e t => ∃ (y2 y3 y4 y5 y6 y7 y8 y9 y10 : Sl), e = [.un, .deck MB, y2, y3, y4, y5, y6, y7, y8, y9, y10] ∧ t.n ≤ 80 * i, ⟨_, _, _, _, _, _, _, _, _, rfl, by decide⟩, ?_, ?_⟩
  · rintro i d e t hd ⟨y2, y3, y4, y5, y6, y7, y8, y9, y10, rfl, ln⟩
    obtain ⟨hi, rfl⟩ := rng0_get hd
    simp_all only [b_law_0b0, p_board, w_pD]
    refine ⟨by omega, fun d t1 hb l1 o1 => ?_⟩
    obtain ⟨n, cs, rfl, n1, n4, c8, hok⟩ := hb
    simp_all only [b_law_0b1, w_draw, drawW, p_coins, w_pD]
    refine ⟨by omega, by omega, fun r r0 r1 => ⟨by first | omega | (simp only [Tq.up]; omega), fun d2 t2 hc l2 o2 => ?_⟩⟩
    obtain ⟨a, rfl, a0, a1⟩ := hc
    simp_all only [b_law_0b2, w_draw, drawW]
    obtain ⟨m, rfl⟩ : ∃ m : Nat, n = (m : Int) := ⟨n.toNat, by omega⟩
    have ln2 : t2.n ≤ 80 * i + 63 := by simp only [Tq.up] at l2; omega
    clear l1 l2 o1 o2 ln
    have shB : Shx (boardD (m : Int) cs) := .inl (Sm.mono (sm_board hok (by omega) (by omega) (by omega)) (by decide) (by decide))
    refine ⟨by omega, fun u u0 u1 => ⟨by simp only [Tq.up]; omega, fun v v0 v1 => ⟨fun j e t' => ∃ (y6 y7 y8 y9 y10 : Sl), e = [.un, .deck MB, .dat (.int (i : Int)), .dat (boardD (m : Int) cs), .dat (.int r), .dat (.int a), y6, y7, y8, y9, y10] ∧ t'.n ≤ 80 * i + 65, ⟨_, _, _, _, _, rfl, by simp only [Tq.up]; omega⟩, ?_, ?_⟩⟩⟩
    · rintro j d e t' hd ⟨y6, y7, y8, y9, y10, rfl, ln⟩
      obtain ⟨N, rfl, hN⟩ : ∃ N : Nat, d = .int (N : Int) ∧ N ≤ 6 := by
        have hm := List.mem_of_getElem? hd
        simp only [List.mem_cons, List.not_mem_nil, or_false] at hm
        rcases hm with rfl | rfl | rfl | rfl | rfl
        · exact ⟨0, rfl, by decide⟩
        · exact ⟨1, rfl, by decide⟩
        · exact ⟨2, rfl, by decide⟩
        · exact ⟨(2 + u).toNat, by congr 1; omega, by omega⟩
        · exact ⟨(5 + v).toNat, by congr 1; omega, by omega⟩
      clear hd
      simp_all only [b_law_0b2b0, p_rea, w_pQ]
      refine ⟨shB, _, ⟨m, cs, r, a, N, rfl, by omega, hN, by omega, hok, rfl⟩, fun d hd => ?_⟩
      obtain ⟨es, em, en, rfl⟩ := hd
      have shE := shx_srt hok (by omega) (by omega) hN a0 a1 em en
      refine ⟨shE, ?_⟩
      simp_all only [b_law_0b2b1, p_amw, w_pQ]
      refine ⟨by rw [rngD_length]; decide, fun q acc s => s = t' ∧ acc = List.replicate q (PyData.str (srtK m es).shown), ⟨rfl, rfl⟩, ?_, ?_⟩
      · rintro q d acc s hd ⟨rfl, rfl⟩
        try simp_all only [p_amw, w_pQ]
        refine ⟨_, ⟨m, cs, r, a, N, rfl, by omega, hN, by omega, hok, rfl⟩, fun d hd => ?_⟩
        obtain ⟨fs, R, rfl⟩ := hd
        rw [tup_srt R em en]
        exact ⟨shE, List.replicate_succ'.symm⟩
      · rintro acc s ⟨rfl, rfl⟩
        simp_all only [b_law_0b2b2]
        rw [rngD_length]
        have ps : Pl 64 (.list [PyData.str (srtK m es).shown, .str (srtK m es).shown]) := (pl_lst (n := 0) fun d hd => by
          have e : d = .str (srtK m es).shown := by
            rcases List.mem_cons.mp hd with h | h
            · exact h
            · exact List.mem_singleton.mp h
          rw [e]
          exact ⟨by simp only [PyData.hasDict], by simp only [PyData.canLay0]; exact ok_srt, by simp only [PyData.depth]; exact Nat.zero_le _⟩).mono (by decide)
        show neF (.list [PyData.str (srtK m es).shown, .str (srtK m es).shown]) (.list [PyData.str (srtK m es).shown, .str (srtK m es).shown]) _
        refine ⟨cmp_pl ps ps, ?_⟩
        rw [eqv_self ps]
        try simp_all only []
        exact ⟨shB, _, _, _, _, _, rfl, ln⟩
    · rintro e t' ⟨y6, y7, y8, y9, y10, rfl, ln⟩
      simp_all only [b_law_0b3, w_draw, drawW]
      refine ⟨by omega, fun q q0 q1 => ⟨⟨by decide, by decide, by decide⟩, fun j e t' => ∃ (y6 y7 y8 y9 y10 : Sl), e = [.un, .deck MB, .dat (.int (i : Int)), .dat (boardD (m : Int) cs), .dat (.int r), .dat (.int a), y6, y7, y8, y9, y10] ∧ t'.n ≤ 80 * i + 66, ⟨_, _, _, _, _, rfl, by simp only [Tq.up]; omega⟩, ?_, ?_⟩⟩
      · clear ln
        rintro j d e t' hd ⟨y6, y7, y8, y9, y10, rfl, ln⟩
        obtain ⟨N, rfl, hN⟩ : ∃ N : Int, d = .int N ∧ 6 < N := by
          have hm := List.mem_of_getElem? hd
          simp only [List.mem_cons, List.not_mem_nil, or_false] at hm
          rcases hm with rfl | rfl | rfl
          · exact ⟨7, rfl, by decide⟩
          · exact ⟨8 + q, rfl, by omega⟩
          · exact ⟨10 ^ (29 : Int).toNat, rfl, by decide⟩
        clear hd
        simp_all only [b_law_0b3b0, p_told, w_pP]
        refine ⟨_, ⟨_, r, a, N, rfl, hN, rfl⟩, .inl ((sm_lst (n := 0) (m := 202) (ds := [.int 6]) fun d hd => by rw [List.mem_singleton.mp hd]; exact sm_int (by decide)).mono (by decide) (by decide)), ?_⟩
        rw [decide_eq_true (show (PyData.list [.int 6]).shown = ("[6]" : Str) by decide +kernel)]
        try simp_all only []
        exact ⟨_, _, _, _, _, rfl, ln⟩
      · clear ln
        rintro e t' ⟨y6, y7, y8, y9, y10, rfl, ln⟩
        exact ⟨_, _, _, _, _, _, _, _, _, rfl, by omega⟩
  · rintro e t ⟨y2, y3, y4, y5, y6, y7, y8, y9, y10, rfl, ln⟩
    simp_all only [b_law_1]
end
theorem kit_typ {K : PySem.W.Frag} {C : Addr} {T : String} {b : Bool} (m : PySem.W.kitMeta T = true) (hs : PySem.W.subIn K (.ref C) (.type T) = some b) : PySem.W.kitOne K (.ref C) (.type T) = some b := by
  have e1 : ¬ ((Value.ref C == Value.type T) = true) := fun z => by cases beq_iff_eq.mp z
  unfold PySem.W.kitOne PySem.W.kitCls
  rw [if_neg e1]
  dsimp only
  rw [if_pos m]
  exact hs
section
theorem all_mk {l : PySem.W.OpenLaw} {w : World} {K : PySem.W.Frag} {h : Heap} {mg : Str → Option Value} {fa f1 f2 f3 f4 f5 f6 f7 f8 f9 f10 f11 : Addr} (X : K.In h) (G : h.Ns mainGlobals mg) (hfa : mg "law" = some (.ref fa))
    {od1 an1 od2 an2 od3 an3 od4 an4 od5 an5 od6 an6 od7 an7 od8 an8 od9 an9 od10 an10 od11 an11 : Option Addr} {sl1 sl2 sl3 sl4 sl5 sl6 sl7 sl8 sl9 sl10 sl11 : Array (Option Value)}
    {oc1 kV1 dc1 pm1 cd1 ct1 oc2 kV2 dc2 pm2 cd2 ct2 oc3 kV3 dc3 pm3 cd3 ct3 oc4 kV4 dc4 pm4 cd4 ct4 oc5 kV5 dc5 pm5 cd5 ct5 oc6 kV6 dc6 pm6 cd6 ct6 oc7 kV7 dc7 pm7 cd7 ct7 oc8 kV8 dc8 pm8 cd8 ct8 oc9 kV9 dc9 pm9 cd9 ct9 oc10 kV10 dc10 pm10 cd10 ct10 oc11 kV11 dc11 pm11 cd11 ct11 : Value}
    {tk1 : Tok}  {Cm fIm : Addr} {nmm qnm : Str} {N0m : Addr} {bsm : List Value} {snm : List Str} {subm : List Value} {abm : Bool} {colm : Option Bool} {dddm : Option Addr} {m0m m1m m2m m3m m5m : Option Value} {ocim dcim pmim cdim ctim : Value} {odim anim : Option Addr} {slim : Array (Option Value)} {p1m p2m q1m q2m q3m q4m : Pos} {CC C21 C22 : Addr}
    (a1 : PySem.W.nsIn K mainGlobals "_law_deck" = some (some (.ref f1)))
    (l1 : K.lookup f1 = some ⟨oc1, od1, .func (PySem.W.fnOf "_law_deck" "_law_deck" (defArgs sDeck) (defBody sDeck) (defScope sDeck) .none kV1 dc1 pm1 an1 cd1 ct1), sl1⟩)
    (c1 : PySem.W.codeIn K cd1 "_law_deck" = true) (k1 : PySem.W.keepIn K (.ref f1) = true)
    (a2 : PySem.W.nsIn K mainGlobals "_law_draw" = some (some (.ref f2)))
    (l2 : K.lookup f2 = some ⟨oc2, od2, .func (PySem.W.fnOf "_law_draw" "_law_draw" (defArgs sDraw) (defBody sDraw) (defScope sDraw) .none kV2 dc2 pm2 an2 cd2 ct2), sl2⟩)
    (c2 : PySem.W.codeIn K cd2 "_law_draw" = true) (k2 : PySem.W.keepIn K (.ref f2) = true)
    (a3 : PySem.W.nsIn K mainGlobals "_law_board" = some (some (.ref f3)))
    (l3 : K.lookup f3 = some ⟨oc3, od3, .func (PySem.W.fnOf "_law_board" "_law_board" (defArgs sBoard) (defBody sBoard) (defScope sBoard) .none kV3 dc3 pm3 an3 cd3 ct3), sl3⟩)
    (c3 : PySem.W.codeIn K cd3 "_law_board" = true) (k3 : PySem.W.keepIn K (.ref f3) = true)
    (a4 : PySem.W.nsIn K mainGlobals "_law_coins" = some (some (.ref f4)))
    (l4 : K.lookup f4 = some ⟨oc4, od4, .func (PySem.W.fnOf "_law_coins" "_law_coins" (defArgs sCoins) (defBody sCoins) (defScope sCoins) .none kV4 dc4 pm4 an4 cd4 ct4), sl4⟩)
    (c4 : PySem.W.codeIn K cd4 "_law_coins" = true) (k4 : PySem.W.keepIn K (.ref f4) = true)
    (a5 : PySem.W.nsIn K mainGlobals "_law_reached" = some (some (.ref f5)))
    (l5 : K.lookup f5 = some ⟨oc5, od5, .func (PySem.W.fnOf "_law_reached" "_law_reached" (defArgs sReached) (defBody sReached) (defScope sReached) .none kV5 dc5 pm5 an5 cd5 ct5), sl5⟩)
    (c5 : PySem.W.codeIn K cd5 "_law_reached" = true) (k5 : PySem.W.keepIn K (.ref f5) = true)
    (a6 : PySem.W.nsIn K mainGlobals "_law_told" = some (some (.ref f6)))
    (l6 : K.lookup f6 = some ⟨oc6, od6, .func (PySem.W.fnOf "_law_told" "_law_told" (defArgs sTold) (defBody sTold) (defScope sTold) .none kV6 dc6 pm6 an6 cd6 ct6), sl6⟩)
    (c6 : PySem.W.codeIn K cd6 "_law_told" = true) (k6 : PySem.W.keepIn K (.ref f6) = true)
    (a7 : PySem.W.nsIn K mainGlobals "changed" = some (some (.ref f7)))
    (l7 : K.lookup f7 = some ⟨oc7, od7, .func (PySem.W.fnOf "changed" "changed" (defArgs sPChanged) (defBody sPChanged) (defScope sPChanged) .none kV7 dc7 pm7 an7 cd7 ct7), sl7⟩)
    (c7 : PySem.W.codeIn K cd7 "changed" = true) (k7 : PySem.W.keepIn K (.ref f7) = true)
    (a8 : PySem.W.nsIn K mainGlobals "after_any_counter" = some (some (.ref f8)))
    (l8 : K.lookup f8 = some ⟨oc8, od8, .func (PySem.W.fnOf "after_any_counter" "after_any_counter" (defArgs sPAfter_any_counter) (defBody sPAfter_any_counter) (defScope sPAfter_any_counter) .none kV8 dc8 pm8 an8 cd8 ct8), sl8⟩)
    (c8 : PySem.W.codeIn K cd8 "after_any_counter" = true) (k8 : PySem.W.keepIn K (.ref f8) = true)
    (a9 : PySem.W.nsIn K mainGlobals "amounts_of_kind" = some (some (.ref f9)))
    (l9 : K.lookup f9 = some ⟨oc9, od9, .func (PySem.W.fnOf "amounts_of_kind" "amounts_of_kind" (defArgs sPAmounts_of_kind) (defBody sPAmounts_of_kind) (defScope sPAmounts_of_kind) .none kV9 dc9 pm9 an9 cd9 ct9), sl9⟩)
    (c9 : PySem.W.codeIn K cd9 "amounts_of_kind" = true) (k9 : PySem.W.keepIn K (.ref f9) = true)
    (a10 : PySem.W.nsIn K mainGlobals "amounts_within" = some (some (.ref f10)))
    (l10 : K.lookup f10 = some ⟨oc10, od10, .func (PySem.W.fnOf "amounts_within" "amounts_within" (defArgs sPAmounts_within) (defBody sPAmounts_within) (defScope sPAmounts_within) .none kV10 dc10 pm10 an10 cd10 ct10), sl10⟩)
    (c10 : PySem.W.codeIn K cd10 "amounts_within" = true) (k10 : PySem.W.keepIn K (.ref f10) = true)
    (a11 : PySem.W.nsIn K mainGlobals "law" = some (some (.ref f11)))
    (l11 : K.lookup f11 = some ⟨oc11, od11, .func (PySem.W.fnOf "law" "law" (defArgs sLaw) (defBody sLaw) (defScope sLaw) .none kV11 dc11 pm11 an11 cd11 ct11), sl11⟩)
    (c11 : PySem.W.codeIn K cd11 "law" = true) (k11 : PySem.W.keepIn K (.ref f11) = true)
    (z_len : PySem.W.nsIn K mainGlobals "len" = some none)
    (z_abs : PySem.W.nsIn K mainGlobals "abs" = some none)
    (z_range : PySem.W.nsIn K mainGlobals "range" = some none)
    (z_repr : PySem.W.nsIn K mainGlobals "repr" = some none)
    (z_min : PySem.W.nsIn K mainGlobals "min" = some none)
    (z_max : PySem.W.nsIn K mainGlobals "max" = some none)
    (z_int : PySem.W.nsIn K mainGlobals "int" = some none)
    (z_tuple : PySem.W.nsIn K mainGlobals "tuple" = some none)
    (z_list : PySem.W.nsIn K mainGlobals "list" = some none)
    (z_bool : PySem.W.nsIn K mainGlobals "bool" = some none)
    (z_isinstance : PySem.W.nsIn K mainGlobals "isinstance" = some none)
    (z_enumerate : PySem.W.nsIn K mainGlobals "enumerate" = some none)
    (u_SMALL_STEPS : PySem.W.nsIn K mainGlobals "SMALL_STEPS" = some (some (.int 6 tk1)))
    (aCm : PySem.W.nsIn K mainGlobals "TooMany" = some (some (.ref Cm)))
    (xLm : K.lookup Cm = some (excClassObj nmm qnm Cm N0m bsm [.ref CC, .type "ValueError", .type "Exception", .type "BaseException", .type "object"] true snm subm abm colm dddm m0m m1m m2m m3m m5m "ValueError.__new__"))
    (sam : PySem.W.findIn K (.ref Cm) "__setattr__" = some (some (.builtin "object.__setattr__")))
    (gam : PySem.W.findIn K (.ref Cm) "__getattribute__" = some (some (.builtin "BaseException.__getattribute__")))
    (ggm : PySem.W.findIn K (.ref Cm) "__getattr__" = some none)
    (nbm : PySem.W.findIn K (.ref Cm) "bound" = some none)
    (aim : PySem.W.findIn K (.ref Cm) "__init__" = some (some (.ref fIm)))
    (tim : PySem.W.typeIn K (.ref fIm) = some (.type "function"))
    (lim : K.lookup fIm = some ⟨ocim, odim, .func (PySem.W.fnOf "__init__" "TooMany.__init__" (PySem.LowX_TooMany.iA p1m p2m) (PySem.LowX_TooMany.iB q1m q2m q3m q4m) PySem.LowX_TooMany.iS .none .none dcim pmim anim cdim ctim), slim⟩)
    (cim : PySem.W.codeIn K cdim "TooMany.__init__" = true)
    (kCm : PySem.W.keepIn K (.ref Cm) = true)
    (eCm : PySem.W.subIn K (.ref Cm) (.type "BaseException") = some true)
    (tCm : PySem.W.typeIn K (.ref Cm) = some (.type "type"))
    (hCm : PySem.W.hasDictIn K Cm = true)
    (sCm : PySem.W.subIn K (.ref Cm) (.ref Cm) = some true)
    (geCC : PySem.W.nsIn K mainGlobals "CoinError" = some (some (.ref CC)))
    (geC21 : PySem.W.nsIn K mainGlobals "BadRoute" = some (some (.ref C21)))
    (geC22 : PySem.W.nsIn K mainGlobals "TooLong" = some (some (.ref C22)))
    (k21n : Cm ≠ C21)
    (k21d : PySem.W.hasDictIn K C21 = true)
    (k21t : PySem.W.typeIn K (.ref C21) = some (.type "type"))
    (k21s : PySem.W.subIn K (.ref Cm) (.ref C21) = some false)
    (k22n : Cm ≠ C22)
    (k22d : PySem.W.hasDictIn K C22 = true)
    (k22t : PySem.W.typeIn K (.ref C22) = some (.type "type"))
    (k22s : PySem.W.subIn K (.ref Cm) (.ref C22) = some false)
    (eb0 : PySem.W.subIn K (.ref CC) (.type "BaseException") = some true)
    (eb1 : PySem.W.hasDictIn K CC = true)
    (eb2 : PySem.W.typeIn K (.ref CC) = some (.type "type"))
    (eb3 : PySem.W.subIn K (.ref Cm) (.ref CC) = some true)
    (zLE : PySem.W.nsIn K mainGlobals "LookupError" = some none)
    (vle : PySem.W.subIn K (.ref Cm) (.type "LookupError") = some false)
    (zsorted : PySem.W.nsIn K mainGlobals "sorted" = some none)
    (zset : PySem.W.nsIn K mainGlobals "set" = some none)
    (xtc1 : PySem.W.findIn K (.ref Cm) "__getattribute__" = some (some (.builtin "BaseException.__getattribute__")))
    (xtc2 : PySem.W.findIn K (.ref Cm) "__getattr__" = some none)
    (xtc3 : PySem.W.subIn K (.ref Cm) (.type "BaseException") = some true)
    (xtc4 : PySem.W.hasDictIn K Cm = true)
    (xtc5 : PySem.W.findIn K (.ref Cm) "__class__" = some (some (.builtin "object.__class__")))
    (xtc6 : PySem.W.specialIn K (.builtin "object.__class__") "__get__" = some (some (.builtin "getset_descriptor.__get__")))
    (xtc7 : PySem.W.takesIn K (.builtin "object.__class__") = some true)
    (xtc8 : PySem.W.mroIn K Cm (.type "object") = some true) :
    ∃ fd : FuncData, (∀ (s : Shared) (v : Value), BindsTo s fd ⟨[v], []⟩ [("_law_script", v)]) ∧ ∀ base : Heap, K.In base → base.Ns mainGlobals mg → FnG l.prog w K mg base CX0 5 fa fd ["_law_script"] (spLaw K) := by
  have e := hfa.symm.trans (PySem.W.mg_of X G a11)
  cases e
  have F1 := fun_mk (st := sDeck) l1 c1 k1
  have T1 : Has K mg "_law_deck" sDeck ["_law_script"] f1 _ := ⟨F1, PySem.W.mg_of X G a1, F1.binds fun _ _ _ _ _ _ us hl => match us, hl with | [_], _ => rfl⟩
  have F2 := fun_mk (st := sDraw) l2 c2 k2
  have T2 : Has K mg "_law_draw" sDraw ["_law_deck_here", "_law_bound"] f2 _ := ⟨F2, PySem.W.mg_of X G a2, F2.binds fun _ _ _ _ _ _ us hl => match us, hl with | [_, _], _ => rfl⟩
  have F3 := fun_mk (st := sBoard) l3 c3 k3
  have T3 : Has K mg "_law_board" sBoard ["_law_deck_here"] f3 _ := ⟨F3, PySem.W.mg_of X G a3, F3.binds fun _ _ _ _ _ _ us hl => match us, hl with | [_], _ => rfl⟩
  have F4 := fun_mk (st := sCoins) l4 c4 k4
  have T4 : Has K mg "_law_coins" sCoins ["_law_deck_here"] f4 _ := ⟨F4, PySem.W.mg_of X G a4, F4.binds fun _ _ _ _ _ _ us hl => match us, hl with | [_], _ => rfl⟩
  have F5 := fun_mk (st := sReached) l5 c5 k5
  have T5 : Has K mg "_law_reached" sReached ["_law_board_here", "_law_kind", "_law_amount", "_law_steps"] f5 _ := ⟨F5, PySem.W.mg_of X G a5, F5.binds fun _ _ _ _ _ _ us hl => match us, hl with | [_, _, _, _], _ => rfl⟩
  have F6 := fun_mk (st := sTold) l6 c6 k6
  have T6 : Has K mg "_law_told" sTold ["_law_board_here", "_law_kind", "_law_amount", "_law_steps"] f6 _ := ⟨F6, PySem.W.mg_of X G a6, F6.binds fun _ _ _ _ _ _ us hl => match us, hl with | [_, _, _, _], _ => rfl⟩
  have F7 := fun_mk (st := sPChanged) l7 c7 k7
  have T7 : Has K mg "changed" sPChanged ["counter", "amount"] f7 _ := ⟨F7, PySem.W.mg_of X G a7, F7.binds fun _ _ _ _ _ _ us hl => match us, hl with | [_, _], _ => rfl⟩
  have F8 := fun_mk (st := sPAfter_any_counter) l8 c8 k8
  have T8 : Has K mg "after_any_counter" sPAfter_any_counter ["board", "had"] f8 _ := ⟨F8, PySem.W.mg_of X G a8, F8.binds fun _ _ _ _ _ _ us hl => match us, hl with | [_, _], _ => rfl⟩
  have F9 := fun_mk (st := sPAmounts_of_kind) l9 c9 k9
  have T9 : Has K mg "amounts_of_kind" sPAmounts_of_kind ["had", "kind"] f9 _ := ⟨F9, PySem.W.mg_of X G a9, F9.binds fun _ _ _ _ _ _ us hl => match us, hl with | [_, _], _ => rfl⟩
  have F10 := fun_mk (st := sPAmounts_within) l10 c10 k10
  have T10 : Has K mg "amounts_within" sPAmounts_within ["board", "kind", "amount", "steps"] f10 _ := ⟨F10, PySem.W.mg_of X G a10, F10.binds fun _ _ _ _ _ _ us hl => match us, hl with | [_, _, _, _], _ => rfl⟩
  have F11 := fun_mk (st := sLaw) l11 c11 k11
  have T11 : Has K mg "law" sLaw ["_law_script"] _ _ := ⟨F11, PySem.W.mg_of X G a11, F11.binds fun _ _ _ _ _ _ us hl => match us, hl with | [_], _ => rfl⟩
  have T : Bz mg := ⟨PySem.W.mg_none_of X G z_len, PySem.W.mg_none_of X G z_abs, PySem.W.mg_none_of X G z_range, PySem.W.mg_none_of X G z_repr, PySem.W.mg_none_of X G z_min, PySem.W.mg_none_of X G z_max, PySem.W.mg_none_of X G z_int, PySem.W.mg_none_of X G z_tuple, PySem.W.mg_none_of X G z_list, PySem.W.mg_none_of X G z_bool, PySem.W.mg_none_of X G z_isinstance, PySem.W.mg_none_of X G z_enumerate⟩
  have C_SMALL_STEPS := PySem.W.mg_of X G u_SMALL_STEPS
  have lowm : PySem.LowX_TooMany.LowTxt_TooMany K mg Cm fIm := { gC := PySem.W.mg_of X G aCm, cls := ⟨nmm, qnm, N0m, bsm, _, snm, subm, abm, colm, dddm, m0m, m1m, m2m, m3m, m5m, xLm, by first | rfl | decide +kernel⟩, sa := sam, ga := gam, gg := ggm, noN := nbm, iC := aim, tC := tim, kC := kCm, exC := eCm, tyC := tCm, hdC := hCm, te := PySem.W.exm_ref eCm hCm tCm sCm, fn := ⟨_, _, _, _, _, _, _, _, _, _, _, _, _, _, lim, cim⟩ }
  have g_CoinError := PySem.W.mg_of X G geCC
  have g_BadRoute := PySem.W.mg_of X G geC21
  have g_TooLong := PySem.W.mg_of X G geC22
  have T_sorted := PySem.W.mg_none_of X G zsorted
  have T_set := PySem.W.mg_none_of X G zset
  have X12 : Er12 K mg (fun n => match n with | 12 => Cm | 20 => CC | 21 => C21 | 22 => C22 | _ => Cm) := ⟨lowm.gC, g_CoinError, g_BadRoute, g_TooLong, PySem.W.mg_none_of X G zLE, PySem.W.exm_ref eb0 eb1 eb2 eb3, kit_self, kit_cons (kit_ref k21n k21d k21t k21s) (kit_cons (kit_typ (by decide +kernel) vle) (kit_cons (kit_ref k22n k22d k22t k22s) kit_nil)), ⟨xtc1, xtc2, xtc3, xtc4, xtc5, xtc6, xtc7, xtc8⟩⟩
  exact ⟨PySem.W.fnOf "law" "law" (defArgs sLaw) (defBody sLaw) (defScope sLaw) .none kV11 dc11 pm11 an11 cd11 ct11, fun s v => .of_eq rfl, fun base _ _ => by
    have G1 := ok_deck (P := l.prog) (w := w) (mg := mg) (base := base) T1 T
    have G2 := ok_draw (P := l.prog) (w := w) (mg := mg) (base := base) T2 T
    have Gbo := ok_board (P := l.prog) (w := w) (mg := mg) (base := base) T3 T T2 G2
    have Gco := ok_coins (P := l.prog) (w := w) (mg := mg) (base := base) T4 T T2 G2
    have Grea := ok_rea (P := l.prog) (w := w) (mg := mg) (base := base) T5 T T_sorted
    have Gch := ok_changed (P := l.prog) (w := w) (mg := mg) (base := base) T7 T
    have Gan := ok_anyc (P := l.prog) (w := w) (mg := mg) (base := base) T8 T T7 Gch
    have Gof := ok_ofk (P := l.prog) (w := w) (mg := mg) (base := base) T9 T
    have Gam := ok_amw (P := l.prog) (w := w) (mg := mg) (base := base) T10 T T_sorted T_set C_SMALL_STEPS ⟨_, rfl⟩ T8 Gan T9 Gof
    have Gaz := ok_amwZ (P := l.prog) (w := w) (mg := mg) (base := base) (A := fun n => match n with | 12 => Cm | 20 => CC | 21 => C21 | 22 => C22 | _ => Cm) T10 T T_sorted T_set C_SMALL_STEPS ⟨_, rfl⟩ T8 Gan T9 Gof lowm
    have Gto := ok_told (P := l.prog) (w := w) (mg := mg) (base := base) (A := fun n => match n with | 12 => Cm | 20 => CC | 21 => C21 | 22 => C22 | _ => Cm) T6 T T10 Gaz lowm X12
    exact ok_law T11 T T1 G1 T2 G2 T3 Gbo T4 Gco T5 Grea T10 Gam T6 Gto⟩
end
section
set_option maxHeartbeats 0 in
theorem hFacts {l : PySem.W.OpenLaw} {w : World} {K : PySem.W.Frag} {h : Heap} {mg : Str → Option Value} {fa : Addr} (X : K.In h) (G : h.Ns mainGlobals mg) (hfa : mg "law" = some (.ref fa)) (c : HSays hFa hFn K) :
    ∃ fd : FuncData, (∀ (s : Shared) (v : Value), BindsTo s fd ⟨[v], []⟩ [("_law_script", v)]) ∧ ∀ base : Heap, K.In base → base.Ns mainGlobals mg → FnG l.prog w K mg base CX0 5 fa fd ["_law_script"] (spLaw K) := by
  obtain ⟨oc_1, od_1, sl_1, kV_1, dc_1, pm_1, an_1, cd_1, ct_1, l_1, c_1⟩ := c.def_ 0 rfl
  obtain ⟨oc_2, od_2, sl_2, kV_2, dc_2, pm_2, an_2, cd_2, ct_2, l_2, c_2⟩ := c.def_ 1 rfl
  obtain ⟨oc_3, od_3, sl_3, kV_3, dc_3, pm_3, an_3, cd_3, ct_3, l_3, c_3⟩ := c.def_ 2 rfl
  obtain ⟨oc_4, od_4, sl_4, kV_4, dc_4, pm_4, an_4, cd_4, ct_4, l_4, c_4⟩ := c.def_ 3 rfl
  obtain ⟨oc_5, od_5, sl_5, kV_5, dc_5, pm_5, an_5, cd_5, ct_5, l_5, c_5⟩ := c.def_ 4 rfl
  obtain ⟨oc_6, od_6, sl_6, kV_6, dc_6, pm_6, an_6, cd_6, ct_6, l_6, c_6⟩ := c.def_ 5 rfl
  obtain ⟨oc_7, od_7, sl_7, kV_7, dc_7, pm_7, an_7, cd_7, ct_7, l_7, c_7⟩ := c.def_ 6 rfl
  obtain ⟨oc_8, od_8, sl_8, kV_8, dc_8, pm_8, an_8, cd_8, ct_8, l_8, c_8⟩ := c.def_ 7 rfl
  obtain ⟨oc_9, od_9, sl_9, kV_9, dc_9, pm_9, an_9, cd_9, ct_9, l_9, c_9⟩ := c.def_ 8 rfl
  obtain ⟨oc_10, od_10, sl_10, kV_10, dc_10, pm_10, an_10, cd_10, ct_10, l_10, c_10⟩ := c.def_ 9 rfl
  obtain ⟨oc_11, od_11, sl_11, kV_11, dc_11, pm_11, an_11, cd_11, ct_11, l_11, c_11⟩ := c.def_ 10 rfl
  obtain ⟨tk_SMALL_STEPS, u_SMALL_STEPS⟩ := int_of (c.fact 34 rfl)
  obtain ⟨ocLm, odLm, slLm, kVLm, dcLm, pmLm, anLm, cdLm, ctLm, lLm, cLm⟩ := c.def_ 11 rfl
  obtain rfl := kd_of (c.fact 35 rfl) lLm
  obtain ⟨nmXm, NXm, qnXm, bsXm, snXm, subXm, abXm, colXm, ddXm, k0Xm, k1Xm, k2Xm, k3Xm, k5Xm, xLm⟩ := low_of (c.fact 37 rfl)
  exact all_mk X G hfa (He.eqO_ok (c.fact 0 rfl)) l_1 c_1 (c.fact 1 rfl) (He.eqO_ok (c.fact 2 rfl)) l_2 c_2 (c.fact 3 rfl) (He.eqO_ok (c.fact 4 rfl)) l_3 c_3 (c.fact 5 rfl) (He.eqO_ok (c.fact 6 rfl)) l_4 c_4 (c.fact 7 rfl) (He.eqO_ok (c.fact 8 rfl)) l_5 c_5 (c.fact 9 rfl) (He.eqO_ok (c.fact 10 rfl)) l_6 c_6 (c.fact 11 rfl) (He.eqO_ok (c.fact 12 rfl)) l_7 c_7 (c.fact 13 rfl) (He.eqO_ok (c.fact 14 rfl)) l_8 c_8 (c.fact 15 rfl) (He.eqO_ok (c.fact 16 rfl)) l_9 c_9 (c.fact 17 rfl) (He.eqO_ok (c.fact 18 rfl)) l_10 c_10 (c.fact 19 rfl) (He.eqO_ok (c.fact 20 rfl)) l_11 c_11 (c.fact 21 rfl) (He.eqO_ok (c.fact 22 rfl)) (He.eqO_ok (c.fact 23 rfl)) (He.eqO_ok (c.fact 24 rfl)) (He.eqO_ok (c.fact 25 rfl)) (He.eqO_ok (c.fact 26 rfl)) (He.eqO_ok (c.fact 27 rfl)) (He.eqO_ok (c.fact 28 rfl)) (He.eqO_ok (c.fact 29 rfl)) (He.eqO_ok (c.fact 30 rfl)) (He.eqO_ok (c.fact 31 rfl)) (He.eqO_ok (c.fact 32 rfl)) (He.eqO_ok (c.fact 33 rfl)) u_SMALL_STEPS (He.eqO_ok (c.fact 36 rfl)) xLm (He.eqO_ok (c.fact 38 rfl)) (He.eqO_ok (c.fact 39 rfl)) (He.eqO_ok (c.fact 40 rfl)) (He.eqO_ok (c.fact 41 rfl)) (He.eqO_ok (c.fact 42 rfl)) (of_decide_eq_true (c.fact 43 rfl)) lLm cLm (c.fact 44 rfl) (of_decide_eq_true (c.fact 45 rfl)) (of_decide_eq_true (c.fact 46 rfl)) (c.fact 47 rfl) (of_decide_eq_true (c.fact 48 rfl)) (He.eqO_ok (c.fact 49 rfl)) (He.eqO_ok (c.fact 50 rfl)) (He.eqO_ok (c.fact 51 rfl)) (of_decide_eq_true (c.fact 52 rfl)) (c.fact 53 rfl) (of_decide_eq_true (c.fact 54 rfl)) (of_decide_eq_true (c.fact 55 rfl)) (of_decide_eq_true (c.fact 56 rfl)) (c.fact 57 rfl) (of_decide_eq_true (c.fact 58 rfl)) (of_decide_eq_true (c.fact 59 rfl)) (of_decide_eq_true (c.fact 60 rfl)) (c.fact 61 rfl) (of_decide_eq_true (c.fact 62 rfl)) (of_decide_eq_true (c.fact 63 rfl)) (He.eqO_ok (c.fact 64 rfl)) (of_decide_eq_true (c.fact 65 rfl)) (He.eqO_ok (c.fact 66 rfl)) (He.eqO_ok (c.fact 67 rfl)) (He.eqO_ok (c.fact 68 rfl)) (He.eqO_ok (c.fact 69 rfl)) (of_decide_eq_true (c.fact 70 rfl)) (c.fact 71 rfl) (He.eqO_ok (c.fact 72 rfl)) (He.eqO_ok (c.fact 73 rfl)) (of_decide_eq_true (c.fact 74 rfl)) (of_decide_eq_true (c.fact 75 rfl))
end
end CG
open PySem PySem.W PySem.Calls PyProof.Rows
set_option maxRecDepth 100000 in
set_option maxHeartbeats 0 in
theorem PySem.Challenge.cw_coincounters_k12_amounts_within_steps_holds : PySem.Challenge.rw_coincounters_k12_amounts_within_steps.Holds := by
  w_on; o_law
  refine HandSHeadRun.head_any (r := OpenLaw.row PySem.Challenge.rw_coincounters_k12_amounts_within_steps) (q := view (OpenLaw.row PySem.Challenge.rw_coincounters_k12_amounts_within_steps).prog [19]) (H := CG.hHook 5 CG.hFa CG.hFn) (ob := fun s => CG.hObsG 5 CG.hFa CG.hFn (HandSHeadRun.getT s)) (M := 20000) (loose := CG.hNm) (d := HandSHeadRun.topDef (OpenLaw.row PySem.Challenge.rw_coincounters_k12_amounts_within_steps).prog 19) (kwd := []) CG.hObs_eq
    (by kernel_rfl) (fun s => by kernel_rfl) CG.hRun (by kernel_rfl) (by kernel_rfl) (by kernel_rfl) (by rfl) (by first | assumption | decide +kernel) (by decide +kernel) ⟨rfl, rfl, rfl, rfl, rfl, by decide +kernel⟩ ?hw ?hc
  case hw => w_witness2
  case hc =>
    refine CG.walkH (l := PySem.Challenge.rw_coincounters_k12_amounts_within_steps) (n := 63) (k := 5) (x := "_law_script") (cx := L2.CX0) rfl (by decide) (by kernel_rfl) ⟨rfl, by decide, by decide⟩ ?F (fun _ _ _ _ z => z)
    intro w mg fa h Y G hmg0
    obtain ⟨K, KX, c⟩ := Y
    have hmg : mg ("law" : PySem.Str) = some (.ref fa) := by
      have e : (HandSHeadRun.topDef (OpenLaw.row PySem.Challenge.rw_coincounters_k12_amounts_within_steps).prog 19).name = ("law" : PySem.Str) := by kernel_rfl
      rw [← e]
      exact hmg0
    obtain ⟨fd, hb, hF⟩ := CG.hFacts (l := PySem.Challenge.rw_coincounters_k12_amounts_within_steps) (w := w) KX G hmg c
    exact ⟨K, fd, CG.spLaw K, KX, hb, fun H a ns hl _ hS => ⟨a, ns, rfl, hS, fun _ => rfl⟩, hF⟩
