import PyProof.Rows.All
import Wide.All
import OpenK.AllK
import Wide.FinOn
import HandS.ForMost
import HandS.ForExc
import HandS.EndBits
import PyProof.ReprLen
import PyProof.ReprRoads
import PyProof.FitsInt
import HandS.TupAny
import HandS.Iter
import HandS.ExcIs
import HandS.TupMul
import HandS.IsInst
import HandS.Style
import KE.GoesMore
import KE.GoesEnum
import HandS.Rev
import HandS.Wide
import HandS.Deep
import HandS.Conv
import HandS.More
import HandS.TryOnly
import HandS.GenList
import HandS.Zip
import KE.SortData
import HandS.SortKw
import KE.DataMinMax
import KE.GoesZip
import HandS.List
import KE.KExcIs
import HandS.Star
import HandS.Defaults
import HandS.FStr
import HandS.Text
import KE.KIndexOf
import PyProof.FactsAll.tuple
import HandS.Head0
import HandS.Head1
import HandS.Head2
import HandS.HeadHook1
import HandS.HeadHook2
import PySem.Challenge.RW_coincounters_k04_kinds_renamed
set_option Elab.async false
set_option linter.all false
set_option maxRecDepth 100000
set_option maxHeartbeats 4000000
section
namespace CG
open PySem PySem.Spec PyProof.Rows L2
noncomputable abbrev HAl : Type := Bool × List He.FnV
end CG
end
section
namespace CG
open PySem PySem.Spec PyProof.Rows L2
noncomputable def hObs (fa : List (PySem.W.Frag → Bool)) (fn : List He.FnD) (K : PySem.W.Frag) : HAl := ((fa.all fun f => f K) && fn.all fun d => (He.Fa.code d.at_ d.qual).ok K, fn.map fun d => He.fnObs K d.at_)
end CG
end
section
namespace CG
open PySem PySem.Spec PyProof.Rows L2
noncomputable def hVal (fn : List He.FnD) : HAl := (true, fn.map He.FnD.val)
end CG
end
section
namespace CG
open PySem PySem.Spec PyProof.Rows L2
noncomputable def HSays (fa : List (PySem.W.Frag → Bool)) (fn : List He.FnD) (K : PySem.W.Frag) : Prop := hObs fa fn K = hVal fn
end CG
end
section
namespace CG
open PySem PySem.Spec PyProof.Rows L2
/-- the objects that an object names, as far as the facts need them -/
noncomputable def refsE (o : Obj) : List Addr := match o.data with
  | .dict es _ => es.toList.flatMap fun e => He.refV e.val
  | .func fd => He.refV fd.code ++ He.refV fd.kwdefaults
  | .cls cd => [cd.ns]
  | _ => []
end CG
end
section
namespace CG
open PySem PySem.Spec PyProof.Rows L2
noncomputable def lvE (g : Addr → Option Obj) (as : List Addr) : List Addr := as.flatMap fun a => match g a with
  | some o => refsE o
  | none => []
end CG
end
section
namespace CG
open PySem PySem.Spec PyProof.Rows L2
/-- a list with its items at hand -/
noncomputable def frcL {α : Type} : List Nat → (List Nat → α) → α
  | [], k => k []
  | a :: r, k => HandSHeadRun.frNat a fun b => frcL r fun r => k (b :: r)
end CG
end
section
namespace CG
open PySem PySem.Spec PyProof.Rows L2
theorem frcL_eq {α : Type} : ∀ (l : List Nat) (k : List Nat → α), frcL l k = k l
  | [], k => rfl
  | a :: r, k => by
    unfold frcL
    rw [HandSHeadRun.frNat_eq]
    exact frcL_eq r _
end CG
end
section
namespace CG
open PySem PySem.Spec PyProof.Rows L2
/-- what the module's names reach in four steps -/
noncomputable def asP {α : Type} (g : Addr → Option Obj) (k : List Addr → α) : α := frcL (lvE g [mainGlobals]) fun l1 => frcL (lvE g l1) fun l2 => frcL (lvE g l2) fun l3 => frcL (lvE g l3) fun l4 => k (mainGlobals :: (l1 ++ (l2 ++ (l3 ++ l4))))
end CG
end
section
namespace CG
open PySem PySem.Spec PyProof.Rows L2
noncomputable def asL (g : Addr → Option Obj) : List Addr := mainGlobals :: (lvE g [mainGlobals] ++ (lvE g (lvE g [mainGlobals]) ++ (lvE g (lvE g (lvE g [mainGlobals])) ++ lvE g (lvE g (lvE g (lvE g [mainGlobals]))))))
end CG
end
section
namespace CG
open PySem PySem.Spec PyProof.Rows L2
theorem asP_eq {α : Type} {g : Addr → Option Obj} {k : List Addr → α} : asP g k = k (asL g) := by
  unfold asP asL
  rw [frcL_eq, frcL_eq, frcL_eq, frcL_eq]
end CG
end
section
namespace CG
open PySem PySem.Spec PyProof.Rows L2
/-- the part of the heap, each object at hand -/
noncomputable def frcF {α : Type} (g : Addr → Option Obj) : List Addr → (PySem.W.Frag → α) → α
  | [], k => k []
  | a :: r, k => match g a with
    | some ⟨c, d, t, s⟩ => frcF g r fun f => k ((a, ⟨c, d, t, s⟩) :: f)
    | none => frcF g r k
end CG
end
section
namespace CG
open PySem PySem.Spec PyProof.Rows L2
theorem frcF_eq {α : Type} {g : Addr → Option Obj} : ∀ (l : List Addr) (k : PySem.W.Frag → α), frcF g l k = k (He.frG g l)
  | [], k => rfl
  | a :: r, k => by
    unfold frcF He.frG
    rw [List.filterMap_cons]
    cases e : g a with
    | none => exact frcF_eq r k
    | some o =>
      obtain ⟨c, d, t, s⟩ := o
      exact frcF_eq r _
end CG
end
section
namespace CG
open PySem PySem.Spec PyProof.Rows L2
noncomputable def hObsG (n : Nat) (fa : List (PySem.W.Frag → Bool)) (fn : List He.FnD) (g : Addr → Option Obj) : HAl := asP g fun l => frcF g l fun f => hObs fa fn f
end CG
end
section
namespace CG
open PySem PySem.Spec PyProof.Rows L2
theorem hObsG_eq {n : Nat} {fa : List (PySem.W.Frag → Bool)} {fn : List He.FnD} {g : Addr → Option Obj} : hObsG n fa fn g = hObs fa fn (He.frG g (asL g)) := by
  unfold hObsG
  rw [asP_eq, frcF_eq]
end CG
end
section
namespace CG
open PySem PySem.Spec PyProof.Rows L2
noncomputable def hHook (n : Nat) (fa : List (PySem.W.Frag → Bool)) (fn : List He.FnD) : PySem.W.Hook where
  α := HAl
  obs := fun s => hObsG n fa fn s.heap.get?
  val := fun _ => hVal fn
  says := fun _ h => ∃ K : PySem.W.Frag, K.In h ∧ HSays fa fn K
  of := fun _ _ e => ⟨_, He.frG_in, hObsG_eq.symm.trans e⟩
  keeps := fun _ _ _ ⟨K, hK, c⟩ k => ⟨K, PySem.W.Frag.In.keeps hK k, c⟩
end CG
end
section
namespace CG
open PySem PySem.Spec PyProof.Rows L2
noncomputable def topS (i : Nat) : Stmt := PySem.Challenge.pw_coincounters_k04_kinds_renamed.main.body.getD i (.Pass ⟨0, 0, 0, 0⟩)
end CG
end
section
namespace CG
open PySem PySem.Spec PyProof.Rows L2
noncomputable abbrev sPRenamed_counters : Stmt := topS 1
end CG
end
section
namespace CG
open PySem PySem.Spec PyProof.Rows L2
noncomputable abbrev sPRenamed : Stmt := topS 2
end CG
end
section
namespace CG
open PySem PySem.Spec PyProof.Rows L2
noncomputable abbrev sDeck : Stmt := topS 4
end CG
end
section
namespace CG
open PySem PySem.Spec PyProof.Rows L2
noncomputable abbrev sDraw : Stmt := topS 5
end CG
end
section
namespace CG
open PySem PySem.Spec PyProof.Rows L2
noncomputable abbrev sSame : Stmt := topS 6
end CG
end
section
namespace CG
open PySem PySem.Spec PyProof.Rows L2
noncomputable abbrev sCounter : Stmt := topS 7
end CG
end
section
namespace CG
open PySem PySem.Spec PyProof.Rows L2
noncomputable abbrev sBoard : Stmt := topS 8
end CG
end
section
namespace CG
open PySem PySem.Spec PyProof.Rows L2
noncomputable abbrev sNames : Stmt := topS 9
end CG
end
section
namespace CG
open PySem PySem.Spec PyProof.Rows L2
noncomputable abbrev sLaw : Stmt := topS 10
end CG
end
section
namespace CG
open PySem PySem.Spec PyProof.Rows L2
noncomputable def hFa0 : List (PySem.W.Frag → Bool) := [fun K => He.eqO (PySem.W.nsIn K mainGlobals "_law_deck") (some (some (.ref (He.ga K "_law_deck")))), fun K => PySem.W.keepIn K (.ref (He.ga K "_law_deck")), fun K => He.eqO (PySem.W.nsIn K mainGlobals "_law_draw") (some (some (.ref (He.ga K "_law_draw")))), fun K => PySem.W.keepIn K (.ref (He.ga K "_law_draw")), fun K => He.eqO (PySem.W.nsIn K mainGlobals "_law_counter") (some (some (.ref (He.ga K "_law_counter")))), fun K => PySem.W.keepIn K (.ref (He.ga K "_law_counter")), fun K => He.eqO (PySem.W.nsIn K mainGlobals "_law_board") (some (some (.ref (He.ga K "_law_board")))), fun K => PySem.W.keepIn K (.ref (He.ga K "_law_board")), fun K => He.eqO (PySem.W.nsIn K mainGlobals "_law_names") (some (some (.ref (He.ga K "_law_names")))), fun K => PySem.W.keepIn K (.ref (He.ga K "_law_names")), fun K => He.eqO (PySem.W.nsIn K mainGlobals "_law_same") (some (some (.ref (He.ga K "_law_same")))), fun K => PySem.W.keepIn K (.ref (He.ga K "_law_same")), fun K => He.eqO (PySem.W.nsIn K mainGlobals "renamed_counters") (some (some (.ref (He.ga K "renamed_counters")))), fun K => PySem.W.keepIn K (.ref (He.ga K "renamed_counters")), fun K => He.eqO (PySem.W.nsIn K mainGlobals "renamed") (some (some (.ref (He.ga K "renamed")))), fun K => PySem.W.keepIn K (.ref (He.ga K "renamed")), fun K => He.eqO (PySem.W.nsIn K mainGlobals "law") (some (some (.ref (He.ga K "law")))), fun K => PySem.W.keepIn K (.ref (He.ga K "law")), fun K => He.eqO (PySem.W.nsIn K mainGlobals "len") (some none), fun K => He.eqO (PySem.W.nsIn K mainGlobals "abs") (some none), fun K => He.eqO (PySem.W.nsIn K mainGlobals "range") (some none), fun K => He.eqO (PySem.W.nsIn K mainGlobals "repr") (some none), fun K => He.eqO (PySem.W.nsIn K mainGlobals "min") (some none), fun K => He.eqO (PySem.W.nsIn K mainGlobals "max") (some none), fun K => He.eqO (PySem.W.nsIn K mainGlobals "int") (some none), fun K => He.eqO (PySem.W.nsIn K mainGlobals "tuple") (some none), fun K => He.eqO (PySem.W.nsIn K mainGlobals "list") (some none), fun K => He.eqO (PySem.W.nsIn K mainGlobals "bool") (some none), fun K => He.eqO (PySem.W.nsIn K mainGlobals "isinstance") (some none), fun K => He.eqO (PySem.W.nsIn K mainGlobals "enumerate") (some none)]
end CG
end
section
namespace CG
open PySem PySem.Spec PyProof.Rows L2
noncomputable def hFa : List (PySem.W.Frag → Bool) := hFa0
end CG
end
section
namespace CG
open PySem PySem.Spec PyProof.Rows L2
noncomputable def hFn0 : List He.FnD := [⟨("_law_deck", none), "_law_deck", "_law_deck", defArgs sDeck, defBody sDeck, defScope sDeck⟩, ⟨("_law_draw", none), "_law_draw", "_law_draw", defArgs sDraw, defBody sDraw, defScope sDraw⟩, ⟨("_law_counter", none), "_law_counter", "_law_counter", defArgs sCounter, defBody sCounter, defScope sCounter⟩, ⟨("_law_board", none), "_law_board", "_law_board", defArgs sBoard, defBody sBoard, defScope sBoard⟩, ⟨("_law_names", none), "_law_names", "_law_names", defArgs sNames, defBody sNames, defScope sNames⟩, ⟨("_law_same", none), "_law_same", "_law_same", defArgs sSame, defBody sSame, defScope sSame⟩, ⟨("renamed_counters", none), "renamed_counters", "renamed_counters", defArgs sPRenamed_counters, defBody sPRenamed_counters, defScope sPRenamed_counters⟩, ⟨("renamed", none), "renamed", "renamed", defArgs sPRenamed, defBody sPRenamed, defScope sPRenamed⟩, ⟨("law", none), "law", "law", defArgs sLaw, defBody sLaw, defScope sLaw⟩]
end CG
end
section
namespace CG
open PySem PySem.Spec PyProof.Rows L2
noncomputable def hFn : List He.FnD := hFn0
end CG
end
section
namespace CG
open PySem PySem.Spec PyProof.Rows L2
noncomputable def hNm0 : List PySem.Str := ["renamed_counters", "renamed", "_law_deck", "_law_draw", "_law_same", "_law_counter", "_law_board", "_law_names"]
end CG
end
section
namespace CG
open PySem PySem.Spec PyProof.Rows L2
noncomputable def hNm : List PySem.Str := hNm0
end CG
end
section
namespace CG
open PySem PySem.Spec PyProof.Rows L2
noncomputable abbrev hR : PySem.W.OpenRow := PySem.W.OpenLaw.row PySem.Challenge.rw_coincounters_k04_kinds_renamed
end CG
end
section
namespace CG
open PySem PySem.Spec PyProof.Rows L2
set_option maxHeartbeats 0 in
theorem hRun (w : World) : HandSHeadRun.RunEq hR (PySem.W.view hR.prog [10]) (hHook 5 hFa hFn) (fun s => hObsG 5 hFa hFn (HandSHeadRun.getT s)) 20000 hNm w := by
  intro os
  kernel_rfl
end CG
end
namespace CG
open PySem PySem.Spec PyProof.Rows L2
/-- the def at f keeps the promise sp wherever no guard is up and there is room -/
structure FnG (pr : Program) (wo : World) (K : PySem.W.Frag) (mg : Str → Option Value) (ba : Heap) (cx : CXT)
    (k : Nat) (f : Addr) (fd : FuncData) (ps : List Str) (sp : Sp) : Prop where
  len : ∀ vs H Q E, sp vs H Q E → vs.length = ps.length
  run : ∀ (A : Around) (out : List Env) (s : Shared) (H : Hp) (ar : Args) (us : List Value) (vs : List V) (Q : VK) (E : XK),
    A.guards = some [] → Room k A → Env0 pr wo K mg ba A out s H → BindsTo s fd ar (ps.zip us) → Vals vs us → sp vs H Q E →
    codeAny (model pr wo) A (.call (.ref f) ar) (CR cx out pr wo H s Q E) s
section
variable {pr : Program} {wo : World} {K : PySem.W.Frag} {mg : Str → Option Value} {ba : Heap} {cx : CXT}
theorem FnG.mono {j k : Nat} {f : Addr} {fd : FuncData} {ps : List Str} {sp : Sp} (G : FnG pr wo K mg ba cx j f fd ps sp) (h : j ≤ k) :
    FnG pr wo K mg ba cx k f fd ps sp :=
  ⟨G.len, fun A out s H ar us vs Q E hg hr => G.run A out s H ar us vs Q E hg (hr.mono h)⟩
theorem FnG.of {k : Nat} {f : Addr} {fd : FuncData} {ps : List Str} {sp : Sp} (G : FnOk pr wo K mg ba cx k f fd ps sp) :
    FnG pr wo K mg ba cx k f fd ps sp :=
  ⟨G.len, fun A out s H ar us vs Q E _ hr => G.run A out s H ar us vs Q E hr⟩
theorem FnG.imp {k : Nat} {f : Addr} {fd : FuncData} {ps : List Str} {sp sp' : Sp} (G : FnG pr wo K mg ba cx k f fd ps sp)
    (h : ∀ vs H Q E, sp' vs H Q E → sp vs H Q E) : FnG pr wo K mg ba cx k f fd ps sp' :=
  ⟨fun vs H Q E q => G.len vs H Q E (h _ _ _ _ q), fun A out s H ar us vs Q E hg hr he hb hv hs => G.run A out s H ar us vs Q E hg hr he hb hv (h _ _ _ _ hs)⟩
/-- a def by its body -/
theorem fnG_of {k : Nat} {f : Addr} {nm qu : Str} {pa : Arguments} {bd : List Stmt} {sc : Scope} {v1 v2 v3 v4 cd v5 oc : Value} {an od : Option Addr}
    {sl : Array (Option Value)} {N ps : List Str} {sp : Sp}
    (lk : K.lookup f = some ⟨oc, od, .func (PySem.W.fnOf nm qu pa bd sc v1 v2 v3 v4 an cd v5), sl⟩)
    (hcd : PySem.W.codeIn K cd qu = true) (S : FnScope N ps sc)
    (len : ∀ vs H Q E, sp vs H Q E → vs.length = ps.length)
    (hbo : ∀ (A : Around) (out : List Env) (s : Shared) (H : Hp) (vs : List V) (Q : VK) (E : XK), A.guards = some [] →
      Room k (A.deeper (envOfC qu sc s.heap.objs.size f cd)) → sp vs H Q E →
      ∃ t, PSs (cxOf cx pr wo K mg ba N qu sc f cd A out s H E) bd t ∧ t { nx := fun _ H' => Q .non H', rt := Q } (start N vs) H) :
    FnG pr wo K mg ba cx (k + 1) f (PySem.W.fnOf nm qu pa bd sc v1 v2 v3 v4 an cd v5) ps sp := by
  refine ⟨len, fun A out s H ar us vs Q E hgd hr e0 hb r hsp => ?_⟩
  have hl := len _ _ _ _ hsp
  have kin : K.In s.heap := e0.mod.kin.keeps fun b o z => (e0.bs b o z).1
  have nol : s.heap.NoLimit := e0.mod.nolimit.keeps fun b o z => (e0.bs b o z).1
  have kinds : ∀ y ∈ ps.zip us, sc.names.lookup y.1 = some .local ∨
      (sc.names.lookup y.1 = some .cell ∧ ((cellsFrom (s.heap.objs.size + 1) sc.names []).lookup y.1).isSome = true) := by
    rintro ⟨n, v⟩ hy
    rcases S.par n (List.of_mem_zip hy).1 with z | z
    · exact .inl z
    · exact .inr ⟨z, PySem.W.cellsFrom_some _ _ _ (.inl z)⟩
  refine codeAny_call_function hr.depth (kin _ _ lk) rfl S.co S.gen rfl (PySem.W.codeRec_of kin hcd) (hb _ _ _ _ ?_)
  refine wpAny_newFunctionEnv_cells S.kind kinds fun ev hev s1 x => ?_
  subst hev
  refine ⟨nol.keeps x.toInCall.keep, codeAny_func ?_⟩
  obtain ⟨t, ht, hq⟩ := hbo A out s H vs Q E hgd (hr.deeper _) hsp
  have I0 : Inv (cxOf cx pr wo K mg ba N qu sc f cd A out s H E) [] (start N vs) H s1 := inv_start S hr.hd e0 hl r x
  refine wpAny_mono (ht.run [] s1 (start N vs) H _ I0 hq) (fun fl s2 hs => ?_) fun e s2 hs => hs
  have done : ∀ {τ : L2.St} {H2 : Hp} {v : V} {u : Value}, Inv (cxOf cx pr wo K mg ba N qu sc f cd A out s H E) [] τ H2 s2 →
      RelV v u → Q v H2 → CE out pr wo H s Q u s2 := fun {τ H2 v u} J rv q => ⟨v, H2, J.os, J.bare, J.base, J.hok, rv, q⟩
  cases fl with
  | ret u =>
    obtain ⟨v, τ, H2, J, rv, q⟩ := hs
    exact done J rv q
  | next =>
    obtain ⟨τ, H2, J, q⟩ := hs
    exact done (v := V.non) (u := Value.none) J rfl q
  | brk =>
    obtain ⟨_, _, _, q⟩ := hs
    exact q.elim
  | cont =>
    obtain ⟨_, _, _, q⟩ := hs
    exact q.elim
theorem okG {x qu : Str} {st : Stmt} {f : Addr} {fd : FuncData} {N ps : List Str} {k : Nat} {sp : Sp} (F : Fun K x qu st f fd)
    (S : FnScope N ps (defScope st)) (len : ∀ vs H Q E, sp vs H Q E → vs.length = ps.length)
    (hbo : ∀ (cd : Value) (A : Around) (out : List Env) (s : Shared) (H : Hp) (vs : List V) (Q : VK) (E : XK), A.guards = some [] →
      Room k (A.deeper (envOfC qu (defScope st) s.heap.objs.size f cd)) → sp vs H Q E →
      ∃ t, PSs (cxOf CX0 pr wo K mg ba N qu (defScope st) f cd A out s H E).nox (defBody st) t ∧
        t { nx := fun _ H' => Q .non H', rt := Q } (start N vs) H) : FnG pr wo K mg ba CX0 (k + 1) f fd ps sp := by
  obtain ⟨oc, od, v2, v3, v4, an, cd, v5, sl, rfl, lk, hcd⟩ := F.ex
  refine fnG_of lk hcd S len fun A out s H vs Q E hg hr hsp => ?_
  obtain ⟨t, h, q⟩ := hbo cd A out s H vs Q E hg hr hsp
  exact ⟨t, h.nox, q⟩
end
section
variable {X : Cx} {cx : CXT} {k : Nat} {f : Addr} {fd : FuncData} {ps : List Str} {sp : Sp} {dvs : List V} {ds : List Value} {E : XK}
  {x : Str} {p pos : Pos} {e : Expr} {es : List Expr} {t : TA}
theorem runG {pins : List (Addr × Obj)} {σ : L2.St} {H : Hp} {s : Shared} {Q : VK} {us : List Value} {vs : List V}
    (G : FnG X.prog X.w X.K X.mg X.base cx k f fd ps sp) (hgd : X.A.guards = some []) (hr : Room k X.A) (hb : Binds X.K fd ps ds)
    (hd : Vals dvs ds) (hx : Passes cx X E) (I : Inv X pins σ H s) (r : Vals vs us) (h : sp (vs ++ dvs) H Q E) :
    wpAny (model X.prog X.w) X.A (call (.ref f) us) (EP X pins σ Q) X.xe s := by
  have rr : Vals (vs ++ dvs) (us ++ ds) := r.append hd
  have hl : (us ++ ds).length = ps.length := by
    rw [← rr.length]
    exact G.len _ _ _ _ h
  have go := G.run X.A X.stack s H ⟨us, []⟩ (us ++ ds) (vs ++ dvs) Q E hgd hr I.env0 (hb s us I.kIn hl) rr h
  refine wpAny_call (codeAny_mono go fun w s2 hq => ?_)
  cases w with
  | error er => exact hx pins σ H s er s2 I hq
  | ok fl =>
    cases fl with
    | ret u => exact I.after hq
    | next => exact hq.elim
    | brk => exact hq.elim
    | cont => exact hq.elim
/-- f(e, ..) -/
theorem pe_callG (G : FnG X.prog X.w X.K X.mg X.base cx k f fd ps sp) (hgd : X.A.guards = some []) (hr : Room k X.A) (hg : Gl X x)
    (hm : X.mg x = some (.ref f)) (hk : PySem.W.keepIn X.K (.ref f) = true) (hb : Binds X.K fd ps ds) (hd : Vals dvs ds)
    (hx : Passes cx X E) (ha : PA X (e :: es) t) (hdb : (x == ("__debug__" : Str)) = false := by decide)
    (he : starEach (e :: es) X.env = (false, eval e X.env) :: starEach es X.env := by rfl)
    (hpl : (backTo pos (starEach es X.env)).any (·.1) = false := by rfl) : PE X (.Call (.Name x p) (e :: es) [] pos) (tCall sp dvs E t) := by
  refine ⟨fun pins s σ H Q I h => wpAny_Call_Name_kw (ld_glob I hg hm ?_ hdb)⟩
  refine PySem.W.callWith_K (h₀ := X.base) I.ok.mod.kin hk ?_ he hpl
  exact thn (ha.run pos pins s σ H _ I h) fun us s1 ⟨vs, H1, I1, r, q⟩ => ⟨I1.kIn, runG G hgd hr hb hd hx I1 r q⟩
end
/-- the law's call at the heap behind the top -/
theorem lawG {pr : Program} {wo : World} {K : PySem.W.Frag} {mg mb : Str → Option Value} {cx : CXT} {k : Nat} {fa a : Addr} {fd : FuncData}
    {x : Str} {sp : Sp} {s : Shared} {vs : List Value} {ns : List Int}
    (kin : K.In s.heap) (hns : s.heap.Ns mainGlobals mg) (hbn : s.heap.Ns builtinsNs mb) (hbb : ∀ x : Str, x ≠ "__name__" → mb x = bootBuiltins x)
    (hlim : s.heap.NoLimit) (hg : s.gens = #[]) (ha : s.heap.get? a = some { cls := .type "list", data := .seq vs.toArray })
    (hi : IntsAre vs ns) (hl : ns.length ≤ sizeLine) (hr : Room k callerA)
    (F : ∀ ba : Heap, K.In ba → ba.Ns mainGlobals mg → FnG pr wo K mg ba cx k fa fd [x] sp)
    (hbind : ∀ (s : Shared) (u : Value), BindsTo s fd ⟨[u], []⟩ [(x, u)])
    (hsp : ∀ H : Hp, Only H → SqL K H a (ns.map V.int) → sp [.ref a] H (fun v _ => v = .bl true) fun _ _ _ => False)
    (hCX : ∀ H e s', cx [] H s (fun _ _ _ => False) e s' → False) :
    codeAny (model pr wo) callerA (.call (.ref fa) ⟨[.ref a], []⟩)
      (fun r s' => r = .ok (.ret (.bool true)) ∧ OldK s.heap s'.heap ∧ s'.os = s.os ∧ AllBare s'.gens) s := by
  have rv := vals_ints hi
  have lenV := hi.length
  have core : ∀ H : Hp, Only H → SqL K H a (ns.map V.int) → HOk pr wo H s.heap → (∀ b, H b ≠ none → b = a) → (H a ≠ none → K.lookup a = none) →
      codeAny (model pr wo) callerA (.call (.ref fa) ⟨[.ref a], []⟩)
        (fun r s' => r = .ok (.ret (.bool true)) ∧ OldK s.heap s'.heap ∧ s'.os = s.os ∧ AllBare s'.gens) s := by
    intro H hO hS hok hA hK
    have down : ∀ {b : Addr} {o : Obj}, s.heap.get? b = some o → H b = none → (hidT s.heap H).get? b = some o := fun e n => hidT_get e n
    have free : ∀ {b : Addr} {o : Obj} {es : Array DictEntry} {ep : Nat}, s.heap.get? b = some o → o.data = .dict es ep → H b = none := by
      intro b o es ep z d
      cases q : H b with
      | none => rfl
      | some u =>
        have eb : b = a := hA b (by rw [q]; simp)
        subst eb
        rw [ha] at z
        cases z
        have d2 : Data.seq vs.toArray _ = Data.dict es ep := d
        cases d2
    have nsD : ∀ {b : Addr} {m : Str → Option Value}, s.heap.Ns b m → (hidT s.heap H).Ns b m := by
      rintro b m ⟨o, es, ep, z, d, r⟩
      exact ⟨o, es, ep, down z (free z d), d, r⟩
    have kinD : K.In (hidT s.heap H) := by
      intro b o z
      refine down (kin b o z) ?_
      cases q : H b with
      | none => rfl
      | some u =>
        have eb : b = a := hA b (by rw [q]; simp)
        subst eb
        rw [hK (by rw [q]; simp)] at z
        cases z
    obtain ⟨mc, l1, l2⟩ := hlim
    have md : Mod K mg (hidT s.heap H) := ⟨kinD, nsD hns, ⟨mb, nsD hbn, hbb⟩, ⟨mc, nsD l1, l2⟩⟩
    have e0 : Env0 pr wo K mg (hidT s.heap H) callerA [] s H :=
      ⟨rfl, md, fun b o z => of_hidT z, Nat.le_of_eq (hidT_size _ _), trivial, fun b hb => absurd (show b ∈ ([] : List Addr) from hb) (by simp), hok, .of_eq hg⟩
    have go := (F _ kinD (nsD hns)).run callerA [] s H ⟨[.ref a], []⟩ [.ref a] [.ref a] _ _ rfl hr e0 (hbind s (.ref a)) (.cons rfl .nil) (hsp H hO hS)
    refine codeAny_mono go fun r s' h => ?_
    cases r with
    | error er => exact (hCX H er s' h).elim
    | ok fl =>
      cases fl with
      | next => exact h.elim
      | brk => exact h.elim
      | cont => exact h.elim
      | ret u =>
        obtain ⟨v, H', os, bare, un, hok', r', q⟩ := h
        have q' : v = .bl true := q
        subst q'
        obtain rfl : u = Value.bool true := r'
        refine ⟨rfl, OldK.of_keep fun b o z => ?_, os, bare⟩
        cases q : H b with
        | none => exact un.keep b o z q (fun w => absurd (show b ∈ ([] : List Addr) from w) (by simp)) (by simp)
        | some u =>
          rcases hO b with w | ⟨ob, xs, w⟩
          · rw [q] at w
            cases w
          · have w2 := un.frzs b ob _ w
            obtain ⟨g1, _⟩ := hok b _ w
            obtain ⟨g2, _⟩ := hok' b _ w2
            rw [z] at g1
            cases g1
            exact g2
  cases hk : K.lookup a with
  | some o =>
    have e := kin a o hk
    rw [ha] at e
    cases e
    have sq : SqL K (fun _ => none) a (ns.map V.int) :=
      .inr ⟨_, vs.toArray, _, hk, rfl, rfl, rfl, by rw [List.size_toArray, lenV]; exact hl, by simpa using rv⟩
    exact core (fun _ => none) (fun _ => .inl rfl) sq (fun b u z => nomatch (show (none : Option HO) = some u from z)) (fun b z => absurd rfl z) fun z => absurd rfl z
  | none =>
    refine core (fun b => if b = a then some (.frz { cls := .type "list", data := .seq vs.toArray } (.lst (ns.map V.int))) else none)
      (fun b => ?_) (.inl (.inr ⟨{ cls := .type "list", data := .seq vs.toArray }, if_pos rfl⟩)) (fun b u z => ?_) (fun b z => ?_) fun _ => hk
    · by_cases hb : b = a
      · exact .inr ⟨_, _, if_pos hb⟩
      · exact .inl (if_neg hb)
    · by_cases hb : b = a
      · have w := (if_pos hb).symm.trans z
        cases w
        subst hb
        exact ⟨ha, by rw [List.length_map]; exact hl, vs, _, rv, ha⟩
      · have w := (if_neg hb).symm.trans z
        cases w
    · by_cases hb : b = a
      · exact hb
      · exact absurd (if_neg hb) z
end CG
namespace CG
open PySem PySem.Spec PyProof.Rows L2
/-- a list or an instance -/
noncomputable def Lv : Option HO → Prop
  | some (.lst _) => True
  | some (.ins _ _ _) => True
  | some (.tbl _) => True
  | _ => False
theorem Lv.ne {o : Option HO} (h : Lv o) : o ≠ none := fun e => by
  rw [e] at h
  exact h
/-- the volatile places are tracked -/
noncomputable def Al (B : Addr → Prop) (H : Hp) : Prop := ∀ a, B a → Lv (H a)
/-- all but the volatile places is kept -/
structure Xt (B : Addr → Prop) (H H' : Hp) : Prop where
  kp : ∀ a o, ¬ B a → H a = some o → H' a = some o
  al : Al B H'
section
variable {B : Addr → Prop} {H H1 H2 : Hp} {K : PySem.W.Frag} {a p : Addr} {xs : List V}
theorem Xt.refl (h : Al B H) : Xt B H H := ⟨fun _ _ _ e => e, h⟩
theorem Xt.trans (x : Xt B H H1) (y : Xt B H1 H2) : Xt B H H2 := ⟨fun a o n e => y.kp a o n (x.kp a o n e), y.al⟩
theorem Al.same (h : Al B H) (e : Same H H1) : Al B H1 := fun a b => by
  cases q : H a with
  | none => exact absurd q (h a b).ne
  | some o => have zz := h a b; rw [q] at zz; rw [e a o q]; exact zz
theorem Xt.same (x : Xt B H H1) (e : Same H1 H2) : Xt B H H2 := ⟨fun a o n z => e a o (x.kp a o n z), x.al.same e⟩
theorem Xt.of (h : Al B H) (e : Same H H1) : Xt B H H1 := (Xt.refl h).same e
theorem Al.new (h : Al B H) (n : H p = none) : ¬ B p := fun b => (h p b).ne n
theorem same_new {o : HO} (n : H p = none) : Same H (upd H p o) := fun b z e => by
  rw [upd_ne (ne_of_none e n)]
  exact e
theorem Xt.sqT (x : Xt B H H1) (nb : ¬ B a) (h : SqT K H a xs) : SqT K H1 a xs := by
  rcases h with (h | ⟨o, h⟩) | h
  · exact .inl (.inl (x.kp _ _ nb h))
  · exact .inl (.inr ⟨o, x.kp _ _ nb h⟩)
  · exact .inr h
end
/-- a tuple of the written part -/
noncomputable def KT (K : PySem.W.Frag) (a : Addr) (xs : List V) : Prop :=
  ∃ (o : Obj) (its : Array Value) (n : Nat), K.lookup a = some o ∧ o.cls = .type "tuple" ∧ o.data = .seq its n ∧ its.size ≤ sizeLine ∧ Vals xs its.toList
/-- data that is no object of its own -/
noncomputable def sV : PyData → Option V
  | .none => some .non
  | .bool b => some (.bl b)
  | .int i => some (.int i)
  | .str x => some (.str x)
  | _ => none
noncomputable def sK : PyData → Option Key
  | .int i => some (.inl i)
  | .str x => some (.inr x)
  | _ => none
/-- a dict of such data -/
noncomputable def FlatD : List (PyData × PyData) → List (Key × V) → Prop
  | [], es => es = []
  | (k, d) :: r, es => ∃ y x t, es = (y, x) :: t ∧ sK k = some y ∧ sV d = some x ∧ FlatD r t
mutual
/-- v is the data d -/
noncomputable def Rp (K : PySem.W.Frag) (B : Addr → Prop) (H : Hp) : PyData → V → Prop
  | .none, v => v = .non
  | .bool b, v => v = .bl b
  | .int i, v => v = .int i
  | .str x, v => v = .str x
  | .list ds, v => ∃ a xs, v = .ref a ∧ ¬ B a ∧ H a = some (.lst xs) ∧ RpA K B H ds xs
  | .tuple ds, v => ∃ a xs, v = .ref a ∧ (¬ B a ∨ KT K a xs) ∧ SqT K H a xs ∧ RpA K B H ds xs
  | .dict kvs, v => ∃ a es, v = .ref a ∧ ¬ B a ∧ H a = some (.dK es) ∧ FlatD kvs es
noncomputable def RpA (K : PySem.W.Frag) (B : Addr → Prop) (H : Hp) : List PyData → List V → Prop
  | [], xs => xs = []
  | d :: ds, xs => ∃ x r, xs = x :: r ∧ Rp K B H d x ∧ RpA K B H ds r
end
section
variable {K : PySem.W.Frag} {B : Addr → Prop} {H H1 H2 : Hp} {v : V} {d : PyData} {ds : List PyData} {xs : List V}
theorem rp_non : Rp K B H .none v ↔ v = .non := by simp only [Rp]
theorem rp_bl {b : Bool} : Rp K B H (.bool b) v ↔ v = .bl b := by simp only [Rp]
theorem rp_int {i : Int} : Rp K B H (.int i) v ↔ v = .int i := by simp only [Rp]
theorem rp_str {x : Str} : Rp K B H (.str x) v ↔ v = .str x := by simp only [Rp]
theorem rp_lst : Rp K B H (.list ds) v ↔ ∃ a xs, v = .ref a ∧ ¬ B a ∧ H a = some (.lst xs) ∧ RpA K B H ds xs := by simp only [Rp]
theorem rp_tup : Rp K B H (.tuple ds) v ↔ ∃ a xs, v = .ref a ∧ (¬ B a ∨ KT K a xs) ∧ SqT K H a xs ∧ RpA K B H ds xs := by simp only [Rp]
theorem rp_dct {kvs : List (PyData × PyData)} : Rp K B H (.dict kvs) v ↔ ∃ a es, v = .ref a ∧ ¬ B a ∧ H a = some (.dK es) ∧ FlatD kvs es := by simp only [Rp]
theorem rpa_nil : RpA K B H [] xs ↔ xs = [] := by simp only [RpA]
theorem rpa_cons : RpA K B H (d :: ds) xs ↔ ∃ x r, xs = x :: r ∧ Rp K B H d x ∧ RpA K B H ds r := by simp only [RpA]
theorem RpA.cons (h : Rp K B H d v) (t : RpA K B H ds xs) : RpA K B H (d :: ds) (v :: xs) := rpa_cons.mpr ⟨v, xs, rfl, h, t⟩
theorem RpA.nil : RpA K B H [] [] := rpa_nil.mpr rfl
mutual
theorem Rp.mono (x : Xt B H H1) : ∀ (d : PyData) (v : V), Rp K B H d v → Rp K B H1 d v
  | .none, v, h => rp_non.mpr (rp_non.mp h)
  | .bool b, v, h => rp_bl.mpr (rp_bl.mp h)
  | .int i, v, h => rp_int.mpr (rp_int.mp h)
  | .str s, v, h => rp_str.mpr (rp_str.mp h)
  | .list ds, v, h => by
    obtain ⟨a, xs, e, nb, s, t⟩ := rp_lst.mp h
    exact rp_lst.mpr ⟨a, xs, e, nb, x.kp _ _ nb s, RpA.mono x ds xs t⟩
  | .tuple ds, v, h => by
    obtain ⟨a, xs, e, nb, s, t⟩ := rp_tup.mp h
    exact rp_tup.mpr ⟨a, xs, e, nb, nb.elim (fun nb => x.sqT nb s) .inr, RpA.mono x ds xs t⟩
  | .dict kvs, v, h => by
    obtain ⟨a, es, e, nb, s, t⟩ := rp_dct.mp h
    exact rp_dct.mpr ⟨a, es, e, nb, x.kp _ _ nb s, t⟩
theorem RpA.mono (x : Xt B H H1) : ∀ (ds : List PyData) (xs : List V), RpA K B H ds xs → RpA K B H1 ds xs
  | [], xs, h => rpa_nil.mpr (rpa_nil.mp h)
  | d :: ds, xs, h => by
    obtain ⟨y, r, e, h1, h2⟩ := rpa_cons.mp h
    exact rpa_cons.mpr ⟨y, r, e, Rp.mono x d y h1, RpA.mono x ds r h2⟩
end
theorem Rp.up (h : Rp K B H d v) (x : Xt B H H1) : Rp K B H1 d v := Rp.mono x d v h
theorem RpA.up (h : RpA K B H ds xs) (x : Xt B H H1) : RpA K B H1 ds xs := RpA.mono x ds xs h
theorem RpA.length : ∀ {ds : List PyData} {xs : List V}, RpA K B H ds xs → ds.length = xs.length
  | [], xs, h => by rw [rpa_nil.mp h]; rfl
  | d :: ds, xs, h => by
    obtain ⟨y, r, e, h1, h2⟩ := rpa_cons.mp h
    rw [e, List.length_cons, List.length_cons, RpA.length h2]
theorem RpA.get : ∀ {ds : List PyData} {xs : List V} {i : Nat} {d : PyData}, RpA K B H ds xs → ds[i]? = some d → ∃ x, xs[i]? = some x ∧ Rp K B H d x
  | [], xs, i, d, h, g => by simp at g
  | c :: ds, xs, 0, d, h, g => by
    obtain ⟨y, r, e, h1, h2⟩ := rpa_cons.mp h
    subst e
    simp only [List.getElem?_cons_zero, Option.some.injEq] at g
    subst g
    exact ⟨y, rfl, h1⟩
  | c :: ds, xs, i + 1, d, h, g => by
    obtain ⟨y, r, e, h1, h2⟩ := rpa_cons.mp h
    subst e
    rw [List.getElem?_cons_succ] at g
    obtain ⟨z, g1, g2⟩ := RpA.get h2 g
    exact ⟨z, by rw [List.getElem?_cons_succ]; exact g1, g2⟩
theorem RpA.append : ∀ {ds es : List PyData} {xs ys : List V}, RpA K B H ds xs → RpA K B H es ys → RpA K B H (ds ++ es) (xs ++ ys)
  | [], es, xs, ys, h, k => by rw [rpa_nil.mp h]; exact k
  | c :: ds, es, xs, ys, h, k => by
    obtain ⟨y, r, e, h1, h2⟩ := rpa_cons.mp h
    subst e
    exact RpA.cons h1 (RpA.append h2 k)
theorem RpA.drop : ∀ {ds : List PyData} {xs : List V} (n : Nat), RpA K B H ds xs → RpA K B H (ds.drop n) (xs.drop n)
  | ds, xs, 0, h => h
  | [], xs, n + 1, h => by rw [rpa_nil.mp h]; exact RpA.nil
  | c :: ds, xs, n + 1, h => by
    obtain ⟨y, r, e, h1, h2⟩ := rpa_cons.mp h
    subst e
    exact RpA.drop n h2
theorem RpA.take : ∀ {ds : List PyData} {xs : List V} (n : Nat), RpA K B H ds xs → RpA K B H (ds.take n) (xs.take n)
  | ds, xs, 0, h => RpA.nil
  | [], xs, n + 1, h => by rw [rpa_nil.mp h]; exact RpA.nil
  | c :: ds, xs, n + 1, h => by
    obtain ⟨y, r, e, h1, h2⟩ := rpa_cons.mp h
    subst e
    exact RpA.cons h1 (RpA.take n h2)
theorem RpA.ints : ∀ (ns : List Int), RpA K B H (ns.map PyData.int) (ns.map V.int)
  | [] => RpA.nil
  | n :: ns => RpA.cons (rp_int.mpr rfl) (RpA.ints ns)
theorem RpA.ints_inv : ∀ {ns : List Int} {xs : List V}, RpA K B H (ns.map PyData.int) xs → xs = ns.map V.int
  | [], xs, h => rpa_nil.mp h
  | n :: ns, xs, h => by
    obtain ⟨y, r, e, h1, h2⟩ := rpa_cons.mp h
    rw [e, rp_int.mp h1, RpA.ints_inv h2]
    rfl
end
/-- B' is B with places that H does not know -/
structure Gw (B B' : Addr → Prop) (H : Hp) : Prop where
  up : ∀ a, B a → B' a
  fr : ∀ a, B' a → B a ∨ H a = none
section
variable {K : PySem.W.Frag} {B B' : Addr → Prop} {H H1 H2 : Hp}
theorem sqT_alive {a : Addr} {xs : List V} (h : SqT K H a xs) : KT K a xs ∨ H a ≠ none := by
  rcases h with (h | ⟨o, h⟩) | h
  · exact .inr (by rw [h]; simp)
  · exact .inr (by rw [h]; simp)
  · exact .inl h
mutual
theorem Rp.grow (g : Gw B B' H) : ∀ (d : PyData) (v : V), Rp K B H d v → Rp K B' H d v
  | .none, v, h => rp_non.mpr (rp_non.mp h)
  | .bool b, v, h => rp_bl.mpr (rp_bl.mp h)
  | .int i, v, h => rp_int.mpr (rp_int.mp h)
  | .str s, v, h => rp_str.mpr (rp_str.mp h)
  | .list ds, v, h => by
    obtain ⟨a, xs, e, nb, s, t⟩ := rp_lst.mp h
    refine rp_lst.mpr ⟨a, xs, e, fun z => ?_, s, RpA.grow g ds xs t⟩
    rcases g.fr a z with w | w
    · exact nb w
    · rw [s] at w
      cases w
  | .tuple ds, v, h => by
    obtain ⟨a, xs, e, nb, s, t⟩ := rp_tup.mp h
    refine rp_tup.mpr ⟨a, xs, e, ?_, s, RpA.grow g ds xs t⟩
    rcases nb with nb | nb
    · rcases sqT_alive s with k | k
      · exact .inr k
      · refine .inl fun z => ?_
        rcases g.fr a z with w | w
        · exact nb w
        · exact k w
    · exact .inr nb
  | .dict kvs, v, h => by
    obtain ⟨a, es, e, nb, s, t⟩ := rp_dct.mp h
    refine rp_dct.mpr ⟨a, es, e, fun z => ?_, s, t⟩
    rcases g.fr a z with w | w
    · exact nb w
    · rw [s] at w
      cases w
theorem RpA.grow (g : Gw B B' H) : ∀ (ds : List PyData) (xs : List V), RpA K B H ds xs → RpA K B' H ds xs
  | [], xs, h => rpa_nil.mpr (rpa_nil.mp h)
  | d :: ds, xs, h => by
    obtain ⟨y, r, e, h1, h2⟩ := rpa_cons.mp h
    exact rpa_cons.mpr ⟨y, r, e, Rp.grow g d y h1, RpA.grow g ds r h2⟩
end
mutual
theorem Rp.less (g : ∀ a, B a → B' a) : ∀ (d : PyData) (v : V), Rp K B' H d v → Rp K B H d v
  | .none, v, h => rp_non.mpr (rp_non.mp h)
  | .bool b, v, h => rp_bl.mpr (rp_bl.mp h)
  | .int i, v, h => rp_int.mpr (rp_int.mp h)
  | .str s, v, h => rp_str.mpr (rp_str.mp h)
  | .list ds, v, h => by
    obtain ⟨a, xs, e, nb, s, t⟩ := rp_lst.mp h
    exact rp_lst.mpr ⟨a, xs, e, fun z => nb (g a z), s, RpA.less g ds xs t⟩
  | .tuple ds, v, h => by
    obtain ⟨a, xs, e, nb, s, t⟩ := rp_tup.mp h
    exact rp_tup.mpr ⟨a, xs, e, nb.imp (fun nb z => nb (g a z)) id, s, RpA.less g ds xs t⟩
  | .dict kvs, v, h => by
    obtain ⟨a, es, e, nb, s, t⟩ := rp_dct.mp h
    exact rp_dct.mpr ⟨a, es, e, fun z => nb (g a z), s, t⟩
theorem RpA.less (g : ∀ a, B a → B' a) : ∀ (ds : List PyData) (xs : List V), RpA K B' H ds xs → RpA K B H ds xs
  | [], xs, h => rpa_nil.mpr (rpa_nil.mp h)
  | d :: ds, xs, h => by
    obtain ⟨y, r, e, h1, h2⟩ := rpa_cons.mp h
    exact rpa_cons.mpr ⟨y, r, e, Rp.less g d y h1, RpA.less g ds r h2⟩
end
/-- one more place -/
noncomputable def Bp (B : Addr → Prop) (p : Addr) : Addr → Prop := fun a => B a ∨ a = p
theorem gw_new {p : Addr} (n : H p = none) : Gw B (Bp B p) H := ⟨fun _ h => .inl h, fun a h => h.elim .inl fun e => .inr (by rw [e]; exact n)⟩
theorem bp_up {p : Addr} : ∀ a, B a → Bp B p a := fun _ h => .inl h
theorem Xt.less (x : Xt B' H H1) (g : ∀ a, B a → B' a) (fr : ∀ a, B' a → B a ∨ H a = none) : Xt B H H1 := ⟨fun a o nb e => x.kp a o (fun z => by
  rcases fr a z with w | w
  · exact nb w
  · rw [e] at w
    cases w) e, fun a h => x.al a (g a h)⟩
end
section
variable {X : Cx} {pins : List (Addr × Obj)} {σ : L2.St} {H : Hp} {s : Shared} {B : Addr → Prop}
theorem flat_key {k : PyData} {y : Key} {u : Value} {s : Shared} (h : sK k = some y) (r : (mixKind X.prog X.w).is y u = true) : Reads s.heap u k [] := by
  have r' : keyIs y u = true := r
  rcases keyIs_shape r' with ⟨i, t, rfl, rfl⟩ | ⟨x, t, rfl, rfl⟩
  · cases k <;> simp only [sK, Option.some.injEq, reduceCtorEq, Sum.inl.injEq] at h
    subst h
    exact .int _ t
  · cases k <;> simp only [sK, Option.some.injEq, reduceCtorEq, Sum.inr.injEq] at h
    subst h
    exact .str _ t
theorem flat_val {d : PyData} {x : V} {u : Value} {s : Shared} (h : sV d = some x) (r : RelV x u) : Reads s.heap u d [] := by
  cases d <;> simp only [sV, Option.some.injEq, reduceCtorEq] at h <;> subst h
  · obtain rfl : u = Value.none := r
    exact .none
  · obtain rfl := (show u = Value.bool _ from r)
    exact .bool _
  · obtain ⟨t, rfl⟩ := (show ∃ t, u = Value.int _ t from r)
    exact .int _ t
  · obtain ⟨t, rfl⟩ := (show ∃ t, u = Value.str _ t from r)
    exact .str _ t
theorem flat_reads {s : Shared} : ∀ {kvs : List (PyData × PyData)} {es : List (Key × V)} {vs : List (Key × Value)} {l : List DictEntry}, FlatD kvs es → KV es vs → Pairs (mixKind X.prog X.w) l vs →
    ReadsAll s.heap (l.map (·.key)) (kvs.map (·.1)) [] ∧ ReadsAll s.heap (l.map (·.val)) (kvs.map (·.2)) []
  | [], es, vs, l, hf, hk, hp => by
    obtain rfl : es = [] := hf
    cases hk
    cases hp
    exact ⟨.nil, .nil⟩
  | (k, d) :: r, es, vs, l, hf, hk, hp => by
    obtain ⟨y, x, t, rfl, h1, h2, h3⟩ := hf
    cases hk with
    | cons a b =>
      obtain ⟨a1, a2⟩ := a
      cases hp with
      | cons c1 c2 e =>
        obtain ⟨g1, g2⟩ := flat_reads (s := s) h3 b e
        dsimp only at a1 a2
        rw [← a1] at c1
        rw [← c2] at a2
        exact ⟨.cons (as := []) (bs := []) (flat_key h1 c1) g1, .cons (as := []) (bs := []) (flat_val h2 a2) g2⟩
mutual
noncomputable def noList : PyData → Bool
  | .list _ => false
  | .tuple ds => noListAll ds
  | _ => true
noncomputable def noListAll : List PyData → Bool
  | [] => true
  | d :: ds => noList d && noListAll ds
end
mutual
theorem Rp.reads (I : Inv X pins σ H s) : ∀ (d : PyData) (v : V) (u : Value), Rp X.K B H d v → RelV v u → ∃ as, Reads s.heap u d as ∧ (noList d = true → sysModules ∉ as)
  | .none, v, u, h, r => by
    rw [rp_non.mp h] at r
    obtain rfl : u = Value.none := r
    exact ⟨_, .none, fun _ z => nomatch z⟩
  | .bool b, v, u, h, r => by
    rw [rp_bl.mp h] at r
    obtain rfl : u = Value.bool b := r
    exact ⟨_, .bool b, fun _ z => nomatch z⟩
  | .int i, v, u, h, r => by
    rw [rp_int.mp h] at r
    obtain ⟨t, rfl⟩ : ∃ t, u = Value.int i t := r
    exact ⟨_, .int i t, fun _ z => nomatch z⟩
  | .str x, v, u, h, r => by
    rw [rp_str.mp h] at r
    obtain ⟨t, rfl⟩ : ∃ t, u = Value.str x t := r
    exact ⟨_, .str x t, fun _ z => nomatch z⟩
  | .list ds, v, u, h, r => by
    obtain ⟨a, xs, rfl, _, sq, t⟩ := rp_lst.mp h
    obtain rfl : u = Value.ref a := r
    obtain ⟨its, rv, ⟨o, n, e, hc, _, hd⟩, _⟩ := I.list (SqL.of sq)
    obtain ⟨as, g, _⟩ := RpA.reads I ds xs its t rv
    exact ⟨_, .list e hc hd (by simpa using g), fun z => by simp only [noList] at z; cases z⟩
  | .tuple ds, v, u, h, r => by
    obtain ⟨a, xs, rfl, _, sq, t⟩ := rp_tup.mp h
    obtain rfl : u = Value.ref a := r
    obtain ⟨its, rv, ⟨o, e, hc, n, hd⟩, _⟩ := I.tuple sq
    obtain ⟨as, g, g2⟩ := RpA.reads I ds xs its t rv
    exact ⟨_, .tuple e hc hd (by simpa using g), fun z => g2 (by simpa only [noList] using z)⟩
  | .dict kvs, v, u, h, r => by
    obtain ⟨a, es, rfl, _, sq, t⟩ := rp_dct.mp h
    obtain rfl : u = Value.ref a := r
    obtain ⟨_, sy, vs, kv, o, en, ep, e, ⟨hc, _⟩, hd, _, hp, _⟩ := (show ObjOk X.prog X.w H s.heap a (.dK es) from I.hok a _ sq)
    obtain ⟨g1, g2⟩ := flat_reads (s := s) t kv hp
    refine ⟨_, .dict e hc hd g1 g2, fun _ z => ?_⟩
    have : sysModules = a := by simpa using z
    rw [this] at sy
    simp at sy
theorem RpA.reads (I : Inv X pins σ H s) : ∀ (ds : List PyData) (xs : List V) (us : List Value), RpA X.K B H ds xs → Vals xs us → ∃ as, ReadsAll s.heap us ds as ∧ (noListAll ds = true → sysModules ∉ as)
  | [], xs, us, h, r => by
    rw [rpa_nil.mp h] at r
    cases r
    exact ⟨_, .nil, fun _ z => nomatch z⟩
  | d :: ds, xs, us, h, r => by
    obtain ⟨y, rr, e, h1, h2⟩ := rpa_cons.mp h
    subst e
    cases r with
    | cons a b =>
      obtain ⟨as, g, g2⟩ := Rp.reads I d _ _ h1 a
      obtain ⟨bs, k, k2⟩ := RpA.reads I ds _ _ h2 b
      refine ⟨_, .cons g k, fun z => ?_⟩
      simp only [noListAll, Bool.and_eq_true] at z
      exact fun w => (List.mem_append.mp w).elim (g2 z.1) (k2 z.2)
end
end
/-- data whose text is known to be short: nested below n, of at most m signs -/
structure Sm (n m : Nat) (d : PyData) : Prop where
  sh : d.showable = true
  nd : d.hasDict = false
  dp : d.depth ≤ n
  ln : d.shown.length ≤ m
theorem Sm.mono {n m n' m' : Nat} {d : PyData} (h : Sm n m d) (hn : n ≤ n') (hm : m ≤ m') : Sm n' m' d :=
  ⟨h.sh, h.nd, Nat.le_trans h.dp hn, Nat.le_trans h.ln hm⟩
theorem sm_int {i : Int} (h : i.natAbs < 2 ^ 200) : Sm 0 202 (.int i) := by
  have hl : i.natAbs.log2 < 201 := by
    by_cases z : i.natAbs = 0
    · rw [z]; decide
    · have := (Nat.log2_lt z).mpr h
      omega
  refine ⟨?_, by simp only [PyData.hasDict], by simp only [PyData.depth]; exact Nat.le_refl _, ?_⟩
  · simp only [PyData.showable, decide_eq_true_eq]
    omega
  · rw [PyData.shown_int]
    have := int_text_length_le (a := i) (k := 201) (by decide) hl
    show (Str.ofString (toString i)).length ≤ 202
    rw [PySem.ofString_length]
    exact this
theorem sm_all {n m : Nat} : ∀ {ds : List PyData}, (∀ d ∈ ds, Sm n m d) →
    PyData.showableAll ds = true ∧ PyData.hasDictAll ds = false ∧ PyData.depthAll ds ≤ n ∧ ((PyData.shownAll ds).map (·.length)).sum ≤ ds.length * m
  | [], _ => by simp [PyData.showableAll, PyData.hasDictAll, PyData.depthAll, PyData.shownAll]
  | d :: ds, h => by
    obtain ⟨h1, h2, h3, h4⟩ := sm_all (ds := ds) fun x hx => h x (List.mem_cons_of_mem _ hx)
    have k := h d List.mem_cons_self
    refine ⟨?_, ?_, ?_, ?_⟩
    · simp only [PyData.showableAll, k.sh, h1, Bool.and_true]
    · simp only [PyData.hasDictAll, k.nd, h2, Bool.or_false]
    · simp only [PyData.depthAll]
      exact Nat.max_le.mpr ⟨k.dp, h3⟩
    · simp only [PyData.shownAll, List.map_cons, List.sum_cons, List.length_cons, Nat.succ_mul]
      have := k.ln
      omega
theorem sm_tup {n m : Nat} {ds : List PyData} (h : ∀ d ∈ ds, Sm n m d) : Sm (n + 1) (ds.length * m + 2 * ds.length + 3) (.tuple ds) := by
  obtain ⟨h1, h2, h3, h4⟩ := sm_all h
  refine ⟨by simpa only [PyData.showable] using h1, by simpa only [PyData.hasDict] using h2, by simp only [PyData.depth]; omega, ?_⟩
  have := tupleText_len_le (PyData.shownAll ds)
  simp only [PyData.shown]
  rw [PyData.shownAll_length] at this
  omega
theorem sm_lst {n m : Nat} {ds : List PyData} (h : ∀ d ∈ ds, Sm n m d) : Sm (n + 1) (ds.length * m + 2 * ds.length + 3) (.list ds) := by
  obtain ⟨h1, h2, h3, h4⟩ := sm_all h
  refine ⟨by simpa only [PyData.showable] using h1, by simpa only [PyData.hasDict] using h2, by simp only [PyData.depth]; omega, ?_⟩
  have := listText_len_le (PyData.shownAll ds)
  simp only [PyData.shown]
  rw [PyData.shownAll_length] at this
  omega
/-- small enough for repr -/
noncomputable def Shw (d : PyData) : Prop := Sm 60 1000000 d
/-- the same for data that may hold dicts and holds no list -/
structure SmT (n m : Nat) (d : PyData) : Prop where
  sh : d.showable = true
  nl : noList d = true
  dp : d.depth ≤ n
  ln : d.shown.length ≤ m
theorem SmT.mono {n m n' m' : Nat} {d : PyData} (h : SmT n m d) (hn : n ≤ n') (hm : m ≤ m') : SmT n' m' d :=
  ⟨h.sh, h.nl, Nat.le_trans h.dp hn, Nat.le_trans h.ln hm⟩
noncomputable def Shx (d : PyData) : Prop := Shw d ∨ SmT 60 1000000 d
noncomputable def rRepr (K : PySem.W.Frag) : List V → Hp → VK → Prop := fun xs H Q => ∃ B v d, xs = [v] ∧ Rp K B H d v ∧ Shx d ∧ Q (.str d.shown) H
theorem call_reprD {X : Cx} (hg : X.A.guards = some []) (hu : X.A.units + 64 < cLine) : CallR X (.builtin "repr") (rRepr X.K) := by
  intro pins s σ H xs us Q I r h
  obtain ⟨B, v, d, rfl, hd, hs, q⟩ := h
  obtain ⟨u, rfl, t⟩ := vals1 r
  obtain ⟨as, rd, rs⟩ := Rp.reads I d v u hd t
  have ln : d.shown.length ≤ 1000000 := hs.elim (·.ln) (·.ln)
  have sh : d.showable = true := hs.elim (·.sh) (·.sh)
  have dp : d.depth ≤ 60 := hs.elim (·.dp) (·.dp)
  have sm : d.hasDict = true → sysModules ∉ as := hs.elim (fun h => PyData.noDict_hsm h.nd) fun h _ => rs h.nl
  have sz : d.shown.length ≤ sizeLine := Nat.le_trans ln (by decide)
  have fin : ∀ (h' : Heap) (u : Tok) (tk : Nat), (∀ b o, s.heap.get? b = some o → h'.get? b = some o) →
      EP X pins σ Q (.str d.shown u) { s with heap := h', toks := tk } := fun h' u tk hk =>
    ⟨.str d.shown, H, I.un (Un.kept hk) (I.hok.kept hk), ⟨u, rfl⟩, q⟩
  cases rd with
  | none =>
    have := fin s.heap s.toks (s.toks + 1) fun _ _ z => z
    rw [PyData.shown_none] at this
    exact PySem.P.repr_of_none this
  | bool b =>
    have := fin s.heap s.toks (s.toks + 1) fun _ _ z => z
    rw [PyData.shown_bool] at this
    refine PySem.P.repr_of_bool ?_
    cases b <;> exact this
  | int i t =>
    have := fin s.heap s.toks (s.toks + 1) fun _ _ z => z
    rw [PyData.shown_int] at this
    simp only [PyData.showable, decide_eq_true_eq] at sh
    exact PySem.P.repr_of_int sh this
  | str x t =>
    have := fin s.heap s.toks (s.toks + 1) fun _ _ z => z
    rw [PyData.shown_str] at this
    exact PySem.P.repr_of_str this (by rw [← PyData.shown_str]; exact sz)
  | list a1 a2 a3 a4 => exact repr_of_reads' (.list a1 a2 a3 a4) sh sm hg (by omega) (fun _ _ z => z) (fun h' u tk hk => fin h' u tk hk) sz
  | tuple a1 a2 a3 a4 => exact repr_of_reads' (.tuple a1 a2 a3 a4) sh sm hg (by omega) (fun _ _ z => z) (fun h' u tk hk => fin h' u tk hk) sz
  | dict a1 a2 a3 a4 a5 => exact repr_of_reads' (.dict a1 a2 a3 a4 a5) sh sm hg (by omega) (fun _ _ z => z) (fun h' u tk hk => fin h' u tk hk) sz
end CG
namespace CG
open PySem PySem.Spec PyProof.Rows L2
/-- the reading te gives the data d and changes nothing that stands -/
noncomputable def Dn (K : PySem.W.Frag) (B : Addr → Prop) (te : TE) (σ : L2.St) (H : Hp) (d : PyData) : Prop :=
  ∀ H1, Xt B H H1 → ∀ Q : VK, (∀ v H2, Same H1 H2 → Rp K B H2 d v → Q v H2) → te σ H1 Q
/-- operations on data -/
noncomputable def RvD (K : PySem.W.Frag) (B : Addr → Prop) (r : R2) (da db d : PyData) : Prop :=
  ∀ H1 x y, Al B H1 → Rp K B H1 da x → Rp K B H1 db y → ∀ Q : VK, (∀ v H2, Same H1 H2 → Rp K B H2 d v → Q v H2) → r x y H1 Q
noncomputable def RuD (K : PySem.W.Frag) (B : Addr → Prop) (r : V → Hp → VK → Prop) (da d : PyData) : Prop :=
  ∀ H1 x, Al B H1 → Rp K B H1 da x → ∀ Q : VK, (∀ v H2, Same H1 H2 → Rp K B H2 d v → Q v H2) → r x H1 Q
noncomputable def RcD (K : PySem.W.Frag) (B : Addr → Prop) (r : List V → Hp → VK → Prop) (ds : List PyData) (d : PyData) : Prop :=
  ∀ H1 xs, Al B H1 → RpA K B H1 ds xs → ∀ Q : VK, (∀ v H2, Same H1 H2 → Rp K B H2 d v → Q v H2) → r xs H1 Q
section
variable {K : PySem.W.Frag} {B : Addr → Prop} {σ : L2.St} {H H1 H2 : Hp} {ta tb te : TE} {tx : TA} {tt tu : TT} {v : V} {d da db dc : PyData}
  {ds es : List PyData} {r : R2} {b c : Bool}
theorem Dn.up (h : Dn K B te σ H d) (x : Xt B H H1) : Dn K B te σ H1 d := fun H2 y Q q => h H2 (x.trans y) Q q
theorem rd_I0 {g : Int → Int → Int} {i j : Int} : RvD K B (rI0 fun i j => .int (g i j)) (.int i) (.int j) (.int (g i j)) := fun H1 x y _ hx hy Q q =>
  ⟨i, j, rp_int.mp hx, rp_int.mp hy, q _ H1 (Same.refl H1) (rp_int.mpr rfl)⟩
theorem rd_B0 {g : Int → Int → Bool} {i j : Int} : RvD K B (rI0 fun i j => .bl (g i j)) (.int i) (.int j) (.bool (g i j)) := fun H1 x y _ hx hy Q q =>
  ⟨i, j, rp_int.mp hx, rp_int.mp hy, q _ H1 (Same.refl H1) (rp_bl.mpr rfl)⟩
theorem rd_I {C : Int → Int → Prop} {g : Int → Int → Int} {i j : Int} (hc : C i j) : RvD K B (rI C fun i j => .int (g i j)) (.int i) (.int j) (.int (g i j)) :=
  fun H1 x y _ hx hy Q q => ⟨i, j, rp_int.mp hx, rp_int.mp hy, hc, q _ H1 (Same.refl H1) (rp_int.mpr rfl)⟩
theorem ru_neg {i : Int} : RuD K B (rU fun i => .int (-i)) (.int i) (.int (-i)) := fun H1 x _ hx Q q => ⟨i, rp_int.mp hx, q _ H1 (Same.refl H1) (rp_int.mpr rfl)⟩
theorem rd_eqI {i j : Int} : RvD K B rEq (.int i) (.int j) (.bool (decide (i = j))) := fun H1 x y _ hx hy Q q => by
  rw [rp_int.mp hx, rp_int.mp hy]
  refine ⟨rfl, ?_⟩
  have e : decide (V.int i = V.int j) = decide (i = j) := by simp
  rw [e]
  exact q _ H1 (Same.refl H1) (rp_bl.mpr rfl)
theorem rd_neI {i j : Int} : RvD K B rNe (.int i) (.int j) (.bool (!decide (i = j))) := fun H1 x y _ hx hy Q q => by
  rw [rp_int.mp hx, rp_int.mp hy]
  refine ⟨rfl, ?_⟩
  have e : decide (V.int i = V.int j) = decide (i = j) := by simp
  rw [e]
  exact q _ H1 (Same.refl H1) (rp_bl.mpr rfl)
theorem rd_eqS {i j : Str} : RvD K B rEq (.str i) (.str j) (.bool (decide (i = j))) := fun H1 x y _ hx hy Q q => by
  rw [rp_str.mp hx, rp_str.mp hy]
  refine ⟨rfl, ?_⟩
  have e : decide (V.str i = V.str j) = decide (i = j) := by simp
  rw [e]
  exact q _ H1 (Same.refl H1) (rp_bl.mpr rfl)
theorem rd_neS {i j : Str} : RvD K B rNe (.str i) (.str j) (.bool (!decide (i = j))) := fun H1 x y _ hx hy Q q => by
  rw [rp_str.mp hx, rp_str.mp hy]
  refine ⟨rfl, ?_⟩
  have e : decide (V.str i = V.str j) = decide (i = j) := by simp
  rw [e]
  exact q _ H1 (Same.refl H1) (rp_bl.mpr rfl)
theorem at_data {i : Int} {xs : List V} (h : atI ds i = some d) (r : RpA K B H ds xs) : ∃ x, atI xs i = some x ∧ Rp K B H d x := by
  unfold atI at h ⊢
  rw [← r.length]
  cases e : ixN ds.length i with
  | none => rw [e] at h; cases h
  | some j =>
    rw [e] at h
    exact r.get h
theorem rd_ixT {i : Int} (h : atI ds i = some d) : RvD K B (rIx K) (.tuple ds) (.int i) d := fun H1 x y _ hx hy Q q => by
  obtain ⟨a, xs, rfl, _, s, t⟩ := rp_tup.mp hx
  obtain ⟨z, g, rz⟩ := at_data h t
  exact .inr (.inl ⟨a, xs, i, z, rfl, rp_int.mp hy, s, g, q z H1 (Same.refl H1) rz⟩)
theorem rd_ixL {i : Int} (h : atI ds i = some d) : RvD K B (rIx K) (.list ds) (.int i) d := fun H1 x y _ hx hy Q q => by
  obtain ⟨a, xs, rfl, _, s, t⟩ := rp_lst.mp hx
  obtain ⟨z, g, rz⟩ := at_data h t
  exact .inl ⟨a, xs, i, z, rfl, rp_int.mp hy, SqL.of s, g, q z H1 (Same.refl H1) rz⟩
end
noncomputable def rAddU (K : PySem.W.Frag) : R2 := fun x y H Q => (rI0 (fun i j => .int (i + j))) x y H Q ∨ (rCatA K x y H Q ∨ rCat x y H Q)
theorem op_addU {X : Cx} : OpR X (binaryOp .Add) (rAddU X.K) := op_add.or (op_catA.or op_cat)
noncomputable def cutD (ds : List PyData) (lo hi : Option Int) : List PyData :=
  (ds.drop (HT.sIx ds.length 0 lo)).take (HT.sIx ds.length ds.length hi - HT.sIx ds.length 0 lo)
noncomputable def rSlU (K : PySem.W.Frag) : V → Option Int → Option Int → Hp → VK → Prop := fun x lo hi H Q => rSlL K x lo hi H Q ∨ rSlA K x lo hi H Q
theorem sl_U {X : Cx} : SlR X (rSlU X.K) := sl_list.or sl_tupA
section
variable {K : PySem.W.Frag} {B : Addr → Prop} {σ : L2.St} {H H1 H2 : Hp} {ta tb te : TE} {tx : TA} {tt tu : TT} {v : V} {d da db dc : PyData}
  {ds es : List PyData} {r : R2} {b c : Bool} {lo hi : Option Int} {tl th : TO}
theorem rd_add {i j : Int} : RvD K B (rAddU K) (.int i) (.int j) (.int (i + j)) := fun H1 x y al hx hy Q q => .inl (rd_I0 (g := fun i j => i + j) H1 x y al hx hy Q q)
theorem rd_catT (z : ds.length + es.length ≤ 100000) : RvD K B (rAddU K) (.tuple ds) (.tuple es) (.tuple (ds ++ es)) := fun H1 x y al hx hy Q q => by
  obtain ⟨a, xs, rfl, na, s, t⟩ := rp_tup.mp hx
  obtain ⟨b, ys, rfl, nb, s2, t2⟩ := rp_tup.mp hy
  refine .inr (.inl ⟨a, b, xs, ys, rfl, rfl, s, s2, ?_, fun e => ?_, fun _ e => ?_, fun _ _ p np => ?_⟩)
  · rw [← t.length, ← t2.length]
    exact Nat.le_trans z (by decide)
  · subst e
    obtain rfl : ds = [] := List.length_eq_zero_iff.mp t.length
    exact q _ H1 (Same.refl H1) hy
  · subst e
    obtain rfl : es = [] := List.length_eq_zero_iff.mp t2.length
    rw [List.append_nil] at q
    exact q _ H1 (Same.refl H1) hx
  · refine q (.ref p) _ (same_new np) (rp_tup.mpr ⟨p, _, rfl, .inl (al.new np), SqT.of upd_same, (t.append t2).up (Xt.of al (same_new np))⟩)
theorem rd_catL (z : ds.length + es.length ≤ 100000) : RvD K B (rAddU K) (.list ds) (.list es) (.list (ds ++ es)) := fun H1 x y al hx hy Q q => by
  obtain ⟨a, xs, rfl, na, s, t⟩ := rp_lst.mp hx
  obtain ⟨b, ys, rfl, nb, s2, t2⟩ := rp_lst.mp hy
  refine .inr (.inr ⟨a, b, xs, ys, rfl, rfl, s, s2, ?_, fun p np => ?_⟩)
  · rw [← t.length, ← t2.length]
    exact Nat.le_trans z (by decide)
  · refine q (.ref p) _ (same_new np) (rp_lst.mpr ⟨p, _, rfl, al.new np, upd_same, (t.append t2).up (Xt.of al (same_new np))⟩)
theorem RpA.cut {xs : List V} (h : RpA K B H ds xs) : RpA K B H (cutD ds lo hi) (cutV xs lo hi) := by
  unfold cutD cutV
  rw [h.length]
  exact RpA.take _ (RpA.drop _ h)
theorem cutD_full (e1 : HT.sIx ds.length 0 lo = 0) (e2 : HT.sIx ds.length ds.length hi = ds.length) : cutD ds lo hi = ds := by
  unfold cutD
  rw [e1, e2, List.drop_zero, Nat.sub_zero, List.take_length]
noncomputable def rLenU (K : PySem.W.Frag) : List V → Hp → VK → Prop := fun xs H Q => ∃ p ys, xs = [.ref p] ∧ (SqL K H p ys ∨ SqT K H p ys) ∧ Q (.int ys.length) H
theorem call_lenU {X : Cx} : CallR X (.builtin "len") (rLenU X.K) := call_len_seq
theorem rc_lenT : RcD K B (rLenU K) [.tuple ds] (.int ds.length) := fun H1 xs al h Q q => by
  obtain ⟨y, r, rfl, h1, h2⟩ := rpa_cons.mp h
  obtain rfl := rpa_nil.mp h2
  obtain ⟨a, xs, rfl, na, s, t⟩ := rp_tup.mp h1
  exact ⟨a, xs, rfl, .inr s, q _ H1 (Same.refl H1) (rp_int.mpr (by rw [t.length]))⟩
theorem rc_lenL : RcD K B (rLenU K) [.list ds] (.int ds.length) := fun H1 xs al h Q q => by
  obtain ⟨y, r, rfl, h1, h2⟩ := rpa_cons.mp h
  obtain rfl := rpa_nil.mp h2
  obtain ⟨a, xs, rfl, na, s, t⟩ := rp_lst.mp h1
  exact ⟨a, xs, rfl, .inl (SqL.of s), q _ H1 (Same.refl H1) (rp_int.mpr (by rw [t.length]))⟩
theorem rc_reprX (h : Shx d) : RcD K B (rRepr K) [d] (.str d.shown) := fun H1 xs al k Q q => by
  obtain ⟨y, r, rfl, h1, h2⟩ := rpa_cons.mp k
  obtain rfl := rpa_nil.mp h2
  exact ⟨B, y, d, rfl, h1, h, q _ H1 (Same.refl H1) (rp_str.mpr rfl)⟩
noncomputable def rMinU : List V → Hp → VK → Prop := fun xs H Q => ∃ i j, xs = [.int i, .int j] ∧ Q (.int (if j < i then j else i)) H
noncomputable def rMaxU : List V → Hp → VK → Prop := fun xs H Q => ∃ i j, xs = [.int i, .int j] ∧ Q (.int (if j > i then j else i)) H
theorem two_ints {i j : Int} {xs : List V} (h : RpA K B H [.int i, .int j] xs) : xs = [.int i, .int j] := by
  obtain ⟨y, r, rfl, h1, h2⟩ := rpa_cons.mp h
  obtain ⟨z, r, rfl, h3, h4⟩ := rpa_cons.mp h2
  rw [rpa_nil.mp h4, rp_int.mp h1, rp_int.mp h3]
theorem rc_min {i j : Int} : RcD K B rMinU [.int i, .int j] (.int (if j < i then j else i)) := fun H1 xs al h Q q =>
  ⟨i, j, two_ints h, q _ H1 (Same.refl H1) (rp_int.mpr rfl)⟩
theorem rc_max {i j : Int} : RcD K B rMaxU [.int i, .int j] (.int (if j > i then j else i)) := fun H1 xs al h Q q =>
  ⟨i, j, two_ints h, q _ H1 (Same.refl H1) (rp_int.mpr rfl)⟩
variable {D : Ends} {t u : TS} {i n : Nat}
end
end CG
namespace CG
open PySem PySem.Spec PyProof.Rows L2
noncomputable def Bk (D C : Addr) : Addr → Prop := fun a => a = D ∨ a = C
/-- a deck at D, its cells at C, t draws done; both are among the places B that data avoid -/
structure Dk (B : Addr → Prop) (H : Hp) (D C : Addr) (t : Int) : Prop where
  bD : B D
  bC : B C
  al : Al B H
  ne : D ≠ C
  nn : 0 ≤ t
  ex : ∃ cs : List Int, H D = some (.lst [.ref C, .int t]) ∧ H C = some (.lst (cs.map V.int)) ∧ cs.length ≤ 63 ∧ ∀ c ∈ cs, 0 ≤ c
section
variable {K : PySem.W.Frag} {B : Addr → Prop} {D C : Addr} {H H1 H2 : Hp} {t t' n m : Int} {σ : L2.St} {te ta tb : TE} {tx : TA} {tt tu : TT} {d : PyData} {ds : List PyData}
  {Φ Ψ Θ : PyData → Prop} {Φs Ψs : List PyData → Prop} {r : R2} {v : V}
theorem Dk.same (k : Dk B H D C t) (e : Same H H1) : Dk B H1 D C t := by
  obtain ⟨bD, bC, al, ne, nn, cs, h1, h2, h3⟩ := k
  exact ⟨bD, bC, al.same e, ne, nn, cs, e _ _ h1, e _ _ h2, h3⟩
/-- what is kept but for the deck is kept but for B -/
theorem Dk.wd (k : Dk B H D C t) (x : Xt (Bk D C) H H1) : Xt B H H1 := ⟨fun a o nb e => x.kp a o (fun z => nb (z.elim (fun w => w ▸ k.bD) fun w => w ▸ k.bC)) e, fun a h => by
  by_cases z : Bk D C a
  · exact x.al a z
  · cases q : H a with
    | none => exact absurd q (k.al a h).ne
    | some o => have zz := k.al a h; rw [q] at zz; rw [x.kp a o z q]; exact zz⟩
theorem Dk.free {p : Addr} (k : Dk B H D C t) (x : Xt B H1 H) (n : H p = none) : H1 p = none := by
  cases q : H1 p with
  | none => rfl
  | some o =>
    have := x.kp p o (k.al.new n) q
    rw [n] at this
    cases this
theorem Dk.less {B' : Addr → Prop} (k : Dk B' H D C t) (g : ∀ a, B a → B' a) (bD : B D) (bC : B C) : Dk B H D C t :=
  ⟨bD, bC, fun a z => k.al a (g a z), k.ne, k.nn, k.ex⟩
noncomputable def Lim : Int := 1000000000000
/-- te gives some data of Φ, with at most n draws -/
noncomputable def Ef (K : PySem.W.Frag) (B : Addr → Prop) (D C : Addr) (n : Int) (te : TE) (σ : L2.St) (H : Hp) (Φ : PyData → Prop) : Prop :=
  ∀ H1 t, Xt B H H1 → Dk B H1 D C t → t + n ≤ Lim → ∀ Q : VK,
    (∀ v d H2 t', Xt (Bk D C) H1 H2 → Dk B H2 D C t' → t' ≤ t + n → Φ d → Rp K B H2 d v → Q v H2) → te σ H1 Q
theorem Ef.up (h : Ef K B D C n te σ H Φ) (x : Xt B H H1) : Ef K B D C n te σ H1 Φ := fun H2 t y k hl Q q => h H2 t (x.trans y) k hl Q q
end
/-- where a def of the text stands -/
structure Has (K : PySem.W.Frag) (mg : Str → Option Value) (x : Str) (st : Stmt) (ps : List Str) (f : Addr) (fd : FuncData) : Prop where
  F : Fun K x x st f fd
  m : mg x = some (.ref f)
  b : Binds K fd ps []
noncomputable def spDeck (K : PySem.W.Frag) : Sp := fun vs H Q _ => ∃ (a : Addr) (ns : List Int), vs = [.ref a] ∧ SqL K H a (ns.map V.int) ∧
  ∀ D C H', Same H H' → H D = none → H C = none → Dk (fun a => a = D ∨ a = C) H' D C 0 → Q (.ref D) H'
end CG
namespace CG
open PySem PySem.Spec PyProof.Rows L2
/-- the built-in names are still the built-in ones -/
structure Bz (mg : Str → Option Value) : Prop where
  z_len : mg "len" = none
  z_abs : mg "abs" = none
  z_range : mg "range" = none
  z_repr : mg "repr" = none
  z_min : mg "min" = none
  z_max : mg "max" = none
  z_int : mg "int" = none
  z_tuple : mg "tuple" = none
  z_list : mg "list" = none
  z_bool : mg "bool" = none
  z_isinstance : mg "isinstance" = none
  z_enumerate : mg "enumerate" = none
end CG
namespace CG
open PySem PySem.Spec PyProof.Rows L2
structure Ctr where
  s : Int
  t : Int
  g : Int
  e : Int
noncomputable def Ctr.d (c : Ctr) : PyData := .tuple [.int c.s, .int c.t, .int c.g, .int c.e]
structure Ctr.Ok (n : Int) (c : Ctr) : Prop where
  s0 : 0 ≤ c.s
  s1 : c.s < n
  t0 : 0 ≤ c.t
  t1 : c.t < n
  ne : c.s ≠ c.t
  g0 : 1 ≤ c.g
  g1 : c.g ≤ 5
  e0 : 1 ≤ c.e
  e1 : c.e ≤ 5
noncomputable def rowsD (cs : List Ctr) : PyData := .tuple (cs.map Ctr.d)
noncomputable def boardD (n : Int) (cs : List Ctr) : PyData := .tuple [.int n, rowsD cs]
noncomputable def IsBoard (most many : Int) (d : PyData) : Prop := ∃ (n : Int) (cs : List Ctr), d = boardD n cs ∧ 1 ≤ n ∧ n ≤ most ∧ (cs.length : Int) ≤ many ∧ ∀ c ∈ cs, c.Ok n
theorem step_ne {s p n : Int} (h1 : 0 ≤ s) (h2 : s < n) (h3 : 1 ≤ p) (h4 : p < n) (h5 : n ≤ 4) : s ≠ (s + p) % n := by
  have c : n = 2 ∨ n = 3 ∨ n = 4 := by omega
  rcases c with rfl | rfl | rfl <;> omega
theorem sm_ctr {n : Int} {c : Ctr} (h : c.Ok n) (hn : n ≤ 100) : Sm 1 900 c.d := by
  refine (sm_tup (n := 0) (m := 202) (ds := [.int c.s, .int c.t, .int c.g, .int c.e]) fun d hd => ?_).mono (by decide) (by show 4 * 202 + 2 * 4 + 3 ≤ 900; decide)
  obtain ⟨h1, h2, h3, h4, _, h5, h6, h7, h8⟩ := h
  simp only [List.mem_cons, List.not_mem_nil, or_false] at hd
  rcases hd with rfl | rfl | rfl | rfl <;> exact sm_int (by omega)
theorem sm_rows {n : Int} {cs : List Ctr} (h : ∀ c ∈ cs, c.Ok n) (hn : n ≤ 100) (hl : cs.length ≤ 100) : Sm 2 100000 (rowsD cs) := by
  refine (sm_tup (n := 1) (m := 900) (ds := cs.map Ctr.d) fun d hd => ?_).mono (by decide) (by rw [List.length_map]; omega)
  obtain ⟨c, hc, rfl⟩ := List.mem_map.mp hd
  exact sm_ctr (h c hc) hn
theorem sm_board {n : Int} {cs : List Ctr} (h : ∀ c ∈ cs, c.Ok n) (hn0 : 0 ≤ n) (hn : n ≤ 100) (hl : cs.length ≤ 100) : Sm 3 200020 (boardD n cs) := by
  refine (sm_tup (n := 2) (m := 100000) (ds := [.int n, rowsD cs]) fun d hd => ?_).mono (by decide) (by show 2 * 100000 + 2 * 2 + 3 ≤ 200020; decide)
  simp only [List.mem_cons, List.not_mem_nil, or_false] at hd
  rcases hd with rfl | rfl
  · exact (sm_int (by omega)).mono (by decide) (by decide)
  · exact sm_rows h hn hl
theorem boot_intU : bootBuiltins "int" = some (.type "int") := by decide +kernel
theorem boot_tupleU : bootBuiltins "tuple" = some (.type "tuple") := by decide +kernel
noncomputable def rIntU : List V → Hp → VK → Prop := fun xs H Q => (∃ i, xs = [.int i] ∧ Q (.int i) H) ∨ ∃ k, xs = [.bl k] ∧ Q (.int (if k then 1 else 0)) H
theorem call_intU {X : Cx} : CallR X (.type "int") rIntU := call_int1
noncomputable def rTupU (K : PySem.W.Frag) : List V → Hp → VK → Prop := fun xs H Q => ∃ p ys, xs = [.ref p] ∧ ((SqL K H p ys ∧ ∀ l, H l = none → Q (.ref l) (upd H l (.tup ys))) ∨ (SqT K H p ys ∧ Q (.ref p) H))
theorem call_tupU {X : Cx} : CallR X (.type "tuple") (rTupU X.K) := call_tuple_of
noncomputable def rLstU (K : PySem.W.Frag) : List V → Hp → VK → Prop := fun xs H Q => ∃ p ys, xs = [.ref p] ∧ (SqL K H p ys ∨ SqT K H p ys) ∧ ∀ l, H l = none → Q (.ref l) (upd H l (.lst ys))
section
variable {K : PySem.W.Frag} {B : Addr → Prop} {D C L : Addr} {H H1 H2 : Hp} {t : Int} {σ : L2.St} {ds : List PyData} {d : PyData}
theorem rc_intB {b : Bool} : RcD K B rIntU [.bool b] (.int (if b then 1 else 0)) := fun H1 xs al h Q q => by
  obtain ⟨y, r, rfl, h1, h2⟩ := rpa_cons.mp h
  obtain rfl := rpa_nil.mp h2
  rw [rp_bl.mp h1]
  exact .inr ⟨b, rfl, q _ H1 (Same.refl H1) (rp_int.mpr rfl)⟩
theorem rc_tupL : RcD K B (rTupU K) [.list ds] (.tuple ds) := fun H1 xs al h Q q => by
  obtain ⟨y, r, rfl, h1, h2⟩ := rpa_cons.mp h
  obtain rfl := rpa_nil.mp h2
  obtain ⟨a, ys, rfl, na, s, t⟩ := rp_lst.mp h1
  refine ⟨a, ys, rfl, .inl ⟨SqL.of s, fun l nl => ?_⟩⟩
  exact q _ _ (same_new nl) (rp_tup.mpr ⟨l, ys, rfl, .inl (al.new nl), SqT.of upd_same, t.up (Xt.of al (same_new nl))⟩)
theorem rc_tupT : RcD K B (rTupU K) [.tuple ds] (.tuple ds) := fun H1 xs al h Q q => by
  obtain ⟨y, r, rfl, h1, h2⟩ := rpa_cons.mp h
  obtain rfl := rpa_nil.mp h2
  obtain ⟨a, ys, rfl, na, s, t⟩ := rp_tup.mp h1
  exact ⟨a, ys, rfl, .inr ⟨s, q _ H1 (Same.refl H1) h1⟩⟩
theorem Al.put {o : List V} (al : Al (Bp B L) H) : Al (Bp B L) (upd H L (.lst o)) := fun a h => by
  by_cases z : a = L
  · rw [z, upd_same]; first | exact trivial | simp
  · rw [upd_ne z]
    exact al a h
theorem xt_put {o : List V} (al : Al (Bp B L) H) : Xt (Bp B L) H (upd H L (.lst o)) := ⟨fun a o nb e => by
  rw [upd_ne (fun z => nb (.inr z))]
  exact e, al.put⟩
theorem Dk.put {o : List V} (k : Dk (Bp B L) H D C t) (nD : D ≠ L) (nC : C ≠ L) : Dk (Bp B L) (upd H L (.lst o)) D C t := by
  obtain ⟨bD, bC, al, ne, nn, cs, h1, h2, h3⟩ := k
  exact ⟨bD, bC, al.put, ne, nn, cs, by rw [upd_ne nD]; exact h1, by rw [upd_ne nC]; exact h2, h3⟩
variable {te : TE} {tx : TA} {m : Int} {g : TG} {tb : TS} {Dd : Ends} {Φs : List PyData → Prop}
end
end CG
namespace CG
open PySem PySem.Spec PyProof.Rows L2
noncomputable def rMulU (K : PySem.W.Frag) : R2 := fun x y H Q => (rI CMul (fun i j => .int (i * j))) x y H Q ∨ (rRepT K x y H Q ∨ rRep x y H Q)
theorem op_mulU {X : Cx} : OpR X (binaryOp .Mult) (rMulU X.K) := op_mul.or (op_repT.or op_rep)
section
variable {K : PySem.W.Frag} {B : Addr → Prop} {D C L : Addr} {H H1 H2 : Hp} {t : Int} {σ : L2.St} {ds : List PyData} {d : PyData} {te : TE} {tx : TA} {j n : Nat}
theorem rpa_flat {xs : List V} (h : RpA K B H ds xs) : ∀ m : Nat, RpA K B H (List.replicate m ds).flatten (List.replicate m xs).flatten
  | 0 => RpA.nil
  | m + 1 => by
    rw [List.replicate_succ, List.replicate_succ, List.flatten_cons, List.flatten_cons]
    exact RpA.append h (rpa_flat h m)
theorem rd_repT {k : Int} (h0 : ds ≠ []) (h1 : 2 ≤ k) (h2 : k ≤ 1000) (hl : ds.length ≤ 1000) : RvD K B (rMulU K) (.tuple ds) (.int k) (.tuple (List.replicate k.toNat ds).flatten) :=
  fun H1 x y al hx hy Q q => by
  obtain ⟨a, xs, rfl, na, s, t⟩ := rp_tup.mp hx
  refine .inr (.inl ⟨a, k, xs, rfl, rp_int.mp hy, s, fun z => ?_, h1, h2, by rw [← t.length]; exact hl, fun p np => ?_⟩)
  · subst z
    exact h0 (List.length_eq_zero_iff.mp t.length)
  · exact q _ _ (same_new np) (rp_tup.mpr ⟨p, _, rfl, .inl (al.new np), SqT.of upd_same, (rpa_flat t _).up (Xt.of al (same_new np))⟩)
theorem rd_repL {k : Int} (h1 : 0 ≤ k) (h2 : k ≤ 1000) (hl : ds.length ≤ 1000) : RvD K B (rMulU K) (.list ds) (.int k) (.list (List.replicate k.toNat ds).flatten) :=
  fun H1 x y al hx hy Q q => by
  obtain ⟨a, xs, rfl, na, s, t⟩ := rp_lst.mp hx
  refine .inr (.inr ⟨a, k, xs, rfl, rp_int.mp hy, s, by omega, by omega, ?_, fun p np => ?_⟩)
  · rw [← t.length]
    refine Nat.le_trans (Nat.mul_le_mul hl (show k.toNat ≤ 1000 by omega)) (by decide)
  · exact q _ _ (same_new np) (rp_lst.mpr ⟨p, _, rfl, al.new np, upd_same, (rpa_flat t _).up (Xt.of al (same_new np))⟩)
theorem rd_mulI {i k : Int} (h : CMul i k) : RvD K B (rMulU K) (.int i) (.int k) (.int (i * k)) := fun H1 x y al hx hy Q q => .inl (rd_I (g := fun i j => i * j) h H1 x y al hx hy Q q)
theorem cutD_take (k : Nat) : cutD ds none (some (k : Int)) = ds.take k := by
  unfold cutD
  rw [HT.sIx_none, HT.sIx_nat, List.drop_zero, Nat.sub_zero, List.take_eq_take_iff]
  omega
theorem cutD_drop (k : Nat) : cutD ds (some (k : Int)) none = ds.drop k := by
  unfold cutD
  rw [HT.sIx_none, HT.sIx_nat]
  by_cases h : k ≤ ds.length
  · rw [Nat.min_eq_left h, List.take_of_length_le (by rw [List.length_drop]; omega)]
  · rw [Nat.min_eq_right (by omega), List.drop_length, List.drop_of_length_le (by omega)]
    exact List.take_nil
end
end CG
namespace CG
open PySem PySem.Spec PyProof.Rows L2
section
variable {prog : Program} {w : World} {A : Around} {E : Value → Shared → Prop} {s : Shared}
theorem rev_adjust (n : Nat) : Builtin.Slice.sliceAdjust none none (-1) (n : Int) = ((n : Int) - 1, -1) := by
  unfold Builtin.Slice.sliceAdjust
  simp
theorem rev_places (n : Nat) : Builtin.Slice.slicePlaces ((n : Int) - 1) (-1) (-1) = n := by
  unfold Builtin.Slice.slicePlaces
  simp
  omega
theorem rev_applied {sl : Addr} {vs : Value} {n : Nat} {Q : Int × Int × Nat → Shared → Prop} (hs : s.heap.IsSliceOf sl .none .none vs) (ps : IsPart vs (some (-1))) (h : Q ((n : Int) - 1, -1, n) s) :
    wpAny (model prog w) A (Builtin.Slice.sliceApplied (.ref sl) (pure (n : Int))) Q E s := by
  obtain ⟨os, hos, hcs, hds⟩ := id hs
  unfold Builtin.Slice.sliceApplied Builtin.Slice.sliceFields
  refine wpAny_bind (wpAny_bind (wpAny_field hos hds (x := .none) rfl (wpAny_bind (wpAny_field hos hds (x := .none) rfl (wpAny_bind (wpAny_field hos hds (x := vs) rfl (wpAny_pure ?_)))))))
  refine wpAny_bind (HT.slicePart_ ps ?_)
  show wpAny _ _ (if ((-1 : Int) == 0) = true then _ else _) _ _ s
  rw [if_neg (by decide)]
  refine wpAny_bind (HT.slicePart_ .none (wpAny_bind (HT.slicePart_ .none (wpAny_bind (wpAny_pure ?_)))))
  show wpAny _ _ (match Builtin.Slice.sliceAdjust none none (-1) (n : Int) with | (lo, hi) => pure (lo, (-1 : Int), Builtin.Slice.slicePlaces lo hi (-1))) _ _ s
  rw [rev_adjust n]
  show wpAny _ _ (pure ((n : Int) - 1, (-1 : Int), Builtin.Slice.slicePlaces ((n : Int) - 1) (-1) (-1))) _ _ s
  rw [rev_places]
  exact wpAny_pure h
theorem fm_all {α β : Type} {f : α → Option β} {g : α → β} : ∀ {l : List α}, (∀ a ∈ l, f a = some (g a)) → l.filterMap f = l.map g
  | [], _ => rfl
  | a :: l, h => by
    rw [List.filterMap_cons, h a List.mem_cons_self, List.map_cons, fm_all fun b hb => h b (List.mem_cons_of_mem _ hb)]
theorem rev_pick (xs : List Value) : ((List.range xs.toArray.size).filterMap fun (k : Nat) => xs.toArray[(((xs.toArray.size : Nat) : Int) - 1 + (k : Int) * -1).toNat]?) = xs.reverse := by
  apply List.ext_getElem?
  intro i
  have e : (List.range xs.toArray.size).filterMap (fun (k : Nat) => xs.toArray[(((xs.toArray.size : Nat) : Int) - 1 + (k : Int) * -1).toNat]?) =
      (List.range xs.length).map (fun k => xs.reverse.getD k .none) := by
    rw [List.size_toArray]
    refine fm_all fun k hk => ?_
    have hk' : k < xs.length := List.mem_range.mp hk
    have e1 : (((xs.length : Nat) : Int) - 1 + (k : Int) * -1).toNat = xs.length - 1 - k := by omega
    rw [e1]
    simp only [List.getElem?_toArray, List.getD_eq_getElem?_getD]
    rw [List.getElem?_reverse hk', List.getElem?_eq_getElem (by omega)]
    rfl
  rw [e, List.getElem?_map]
  by_cases hi : i < xs.length
  · rw [List.getElem?_range hi, List.getElem?_reverse hi, List.getElem?_eq_getElem (by omega)]
    simp only [Option.map_some, List.getD_eq_getElem?_getD]
    rw [List.getElem?_reverse hi, List.getElem?_eq_getElem (by omega)]
    rfl
  · rw [List.getElem?_eq_none (by rw [List.length_range]; omega), List.getElem?_eq_none (by rw [List.length_reverse]; omega)]
    rfl
theorem rev_item {t sl : Addr} {its : List Value} {vs : Value} {Q : Value → Shared → Prop} (ht : IsTup s.heap t its.toArray) (hs : s.heap.IsSliceOf sl .none .none vs) (ps : IsPart vs (some (-1)))
    (h : Q (.ref s.heap.objs.size) { s with heap := s.heap.push { cls := .type "tuple", data := .seq its.reverse.toArray } })
    (hsz : its.length ≤ sizeLine) : wpAny (model prog w) A (getItem (.ref t) (.ref sl)) Q E s := by
  have hok : sizeOk (.seq its.reverse.toArray) := by
    show its.reverse.toArray.size ≤ sizeLine
    rw [List.size_toArray, List.length_reverse]
    exact hsz
  obtain ⟨os, hos, hcs, hds⟩ := id hs
  have hTs : s.TypeIs (.ref sl) "slice" := ⟨os, hos, hcs⟩
  unfold getItem
  try with_reducible refine wpAny_holding ?_
  first | refine wpAny_bind (wpAny_pure ?_) | skip
  refine wpAny_bind (wpAny_sequenceKey ht.typeIs (by decide) ?_)
  refine wpAny_bind (wpAny_callSpecial?_slot (name := Str.ofString "__getitem__") ht.typeIs PyProof.Rows.slot_tuple_getitem
    (wpAny_call_entry PyProof.Rows.slot_tuple_getitem ht.typeIs entry_tuple_getitem ?_ (args_tuple_getitem _ _)))
  show wpAny _ _ (Builtin.Tuple.tupleItemsOf (.ref t) >>= _) _ _ s
  refine wpAny_bind (tupleItemsOf_ ht ?_)
  refine wpAny_bind (wpAny_typeOf hTs ?_)
  rw [if_pos (by decide)]
  refine wpAny_bind (rev_applied hs ps ?_)
  have hno : ¬ ((((its.toArray.size : Nat) : Int) - 1 == 0 && (-1 : Int) == 1 && its.toArray.size == its.toArray.size) = true) := by
    intro q
    rw [Bool.and_eq_true, Bool.and_eq_true] at q
    exact absurd (eq_of_beq q.1.2) (by decide)
  show wpAny _ _ (if (((its.toArray.size : Nat) : Int) - 1 == 0 && (-1 : Int) == 1 && its.toArray.size == its.toArray.size) = true then _ else _) _ _ s
  rw [if_neg hno, rev_pick]
  first
    | exact wpAny_bind (m := Builtin.Tuple.tupleExact _) (wpAny_newObj_type (wpAny_pure ⟨_, rfl, wpAny_pure h⟩) hok)
    | exact wpAny_bind (m := Builtin.Tuple.tupleExact _) (wpAny_newObj_type (wpAny_bind (wpAny_pure (wpAny_pure ⟨_, rfl, wpAny_pure h⟩))) hok)
    | exact wpAny_bind (wpAny_bind (m := Builtin.Tuple.tupleExact _) (wpAny_newObj_type (wpAny_pure (wpAny_pure ⟨_, rfl, wpAny_pure h⟩)) hok))
    | exact wpAny_bind (wpAny_bind (m := Builtin.Tuple.tupleExact _) (wpAny_newObj_type (wpAny_pure ⟨_, rfl, wpAny_pure h⟩) hok))
end
noncomputable def isTup : PyData → Bool
  | .tuple _ => true
  | _ => false
end CG
namespace CG
open PySem PySem.Spec PyProof.Rows L2
noncomputable def rIsNU : R2 := fun x y H Q => y = .non ∧ Q (.bl (decide (x = .non))) H
noncomputable def isNone : PyData → Bool
  | .none => true
  | _ => false
noncomputable def rNeU (K : PySem.W.Frag) : R2 := fun x y H Q => rNe x y H Q ∨ rNeD K x y H Q
theorem op_neU {X : Cx} (hu : X.A.units + 64 < cLine) : OpR X (compareOp .NotEq) (rNeU X.K) := op_ne.or (op_neD hu)
noncomputable def rEqU (K : PySem.W.Frag) : R2 := fun x y H Q => rEq x y H Q ∨ rEqD K x y H Q
theorem op_eqU {X : Cx} (hu : X.A.units + 64 < cLine) : OpR X (compareOp .Eq) (rEqU X.K) := op_eq.or (op_eqD hu)
section
variable {K : PySem.W.Frag} {B : Addr → Prop} {D C L : Addr} {H H1 H2 : Hp} {t : Int} {σ : L2.St} {ds : List PyData} {d da db dc : PyData} {te ta tb tc : TE} {tx : TA} {tt : TT} {j n : Nat} {r r' : R2} {b c : Bool}
theorem rd_isN : RvD K B rIsNU d .none (.bool (isNone d)) := fun H1 x y al hx hy Q q => by
  refine ⟨rp_non.mp hy, ?_⟩
  have e : decide (x = V.non) = isNone d := by
    cases d with
    | none => rw [rp_non.mp hx]; rfl
    | bool b => rw [rp_bl.mp hx]; rfl
    | int i => rw [rp_int.mp hx]; rfl
    | str s => rw [rp_str.mp hx]; rfl
    | list ds =>
      obtain ⟨a, xs, rfl, _⟩ := rp_lst.mp hx
      rfl
    | tuple ds =>
      obtain ⟨a, xs, rfl, _⟩ := rp_tup.mp hx
      rfl
    | dict kvs =>
      obtain ⟨a, xs, rfl, _⟩ := rp_dct.mp hx
      rfl
  rw [e]
  exact q _ H1 (Same.refl H1) (rp_bl.mpr rfl)
mutual
theorem Rp.dp : ∀ (d : PyData) (v : V), Rp K B H d v → d.hasDict = false → Dp K H v d
  | .none, v, h, _ => by rw [rp_non.mp h]; exact .non
  | .bool b, v, h, _ => by rw [rp_bl.mp h]; exact .bl b
  | .int i, v, h, _ => by rw [rp_int.mp h]; exact .int i
  | .str x, v, h, _ => by rw [rp_str.mp h]; exact .str x
  | .list ds, v, h, hd => by
    obtain ⟨a, xs, rfl, _, s, t⟩ := rp_lst.mp h
    exact .lst (SqL.of s) (RpA.dp ds xs t (by simpa only [PyData.hasDict] using hd))
  | .tuple ds, v, h, hd => by
    obtain ⟨a, xs, rfl, _, s, t⟩ := rp_tup.mp h
    exact .tup s (RpA.dp ds xs t (by simpa only [PyData.hasDict] using hd))
  | .dict kvs, v, h, hd => by
    simp only [PyData.hasDict] at hd
    cases hd
theorem RpA.dp : ∀ (ds : List PyData) (xs : List V), RpA K B H ds xs → PyData.hasDictAll ds = false → DpAll K H xs ds
  | [], xs, h, _ => by rw [rpa_nil.mp h]; exact .nil
  | d :: ds, xs, h, hd => by
    obtain ⟨x, r, rfl, h1, h2⟩ := rpa_cons.mp h
    simp only [PyData.hasDictAll, Bool.or_eq_false_iff] at hd
    exact .cons (Rp.dp d x h1 hd.1) (RpA.dp ds r h2 hd.2)
end
theorem rd_neD (ha : da.hasDict = false) (hb : db.hasDict = false) (sa : SeqAt.shaped da = true) (sb : SeqAt.shaped db = true) : RvD K B (rNeU K) da db (.bool (!PyData.eqv da db)) := fun H1 x y al hx hy Q q =>
  .inr ⟨da, db, Rp.dp _ _ hx ha, Rp.dp _ _ hy hb, sa, sb, q _ H1 (Same.refl H1) (rp_bl.mpr rfl)⟩
theorem rd_eqD (ha : da.hasDict = false) (hb : db.hasDict = false) (sa : SeqAt.shaped da = true) (sb : SeqAt.shaped db = true) : RvD K B (rEqU K) da db (.bool (PyData.eqv da db)) := fun H1 x y al hx hy Q q =>
  .inr ⟨da, db, Rp.dp _ _ hx ha, Rp.dp _ _ hy hb, sa, sb, q _ H1 (Same.refl H1) (rp_bl.mpr rfl)⟩
end
end CG
namespace CG
open PySem PySem.Spec PyProof.Rows L2
/-- small, and without lists or without dicts -/
noncomputable def Sx (n m : Nat) (d : PyData) : Prop := Sm n m d ∨ SmT n m d
/-- small, without both -/
structure Tm (n m : Nat) (d : PyData) : Prop where
  a : Sm n m d
  b : SmT n m d
section
variable {n m n' m' : Nat} {d x : PyData} {ds : List PyData}
theorem Tm.mono (h : Tm n m d) (hn : n ≤ n') (hm : m ≤ m') : Tm n' m' d := ⟨h.a.mono hn hm, h.b.mono hn hm⟩
theorem Sx.mono (h : Sx n m d) (hn : n ≤ n') (hm : m ≤ m') : Sx n' m' d := h.imp (·.mono hn hm) (·.mono hn hm)
end
end CG
namespace CG
open PySem PySem.Spec PyProof.Rows L2
/-- all but the place L is kept -/
noncomputable def Pt (L : Addr) (H H2 : Hp) : Prop := ∀ a o, a ≠ L → H a = some o → H2 a = some o
/-- the list at L holds ds; no other data reaches it -/
structure Own (K : PySem.W.Frag) (B : Addr → Prop) (L : Addr) (H : Hp) (ds : List PyData) : Prop where
  nB : ¬ B L
  ex : ∃ vs, H L = some (.lst vs) ∧ RpA K (Bp B L) H ds vs
section
variable {K : PySem.W.Frag} {B : Addr → Prop} {D C L : Addr} {H H0 H1 H2 : Hp} {t t' n m : Int} {σ : L2.St} {te ta tb : TE} {tx : TA} {tt tu : TT} {d : PyData} {ds : List PyData}
  {Φ Ψ Θ : PyData → Prop} {Φs Ψs : List PyData → Prop} {Dd : Ends} {i : Nat}
theorem Pt.refl : Pt L H H := fun _ _ _ e => e
theorem Pt.trans (h : Pt L H H1) (k : Pt L H1 H2) : Pt L H H2 := fun a o n e => k a o n (h a o n e)
theorem Pt.same (h : Pt L H H1) (k : Same H1 H2) : Pt L H H2 := fun a o n e => k a o (h a o n e)
theorem Pt.of (k : Same H H1) : Pt L H H1 := fun a o _ e => k a o e
theorem Pt.put {o : HO} : Pt L H (upd H L o) := fun a u n e => by rw [upd_ne n]; exact e
theorem Dk.nD (k : Dk B H D C t) (nB : ¬ B L) : D ≠ L := fun e => nB (e ▸ k.bD)
theorem Dk.nC (k : Dk B H D C t) (nB : ¬ B L) : C ≠ L := fun e => nB (e ▸ k.bC)
theorem Dk.pt (k : Dk (Bp B L) H D C t) (h : Pt L H H1) (al : Al (Bp B L) H1) (nD : D ≠ L) (nC : C ≠ L) : Dk (Bp B L) H1 D C t := by
  obtain ⟨bD, bC, _, ne, nn, cs, h1, h2, h3⟩ := k
  exact ⟨bD, bC, al, ne, nn, cs, h _ _ nD h1, h _ _ nC h2, h3⟩
theorem Own.same (o : Own K B L H ds) (al : Al (Bp B L) H) (e : Same H H1) : Own K B L H1 ds := by
  obtain ⟨nB, vs, h1, h2⟩ := o
  exact ⟨nB, vs, e _ _ h1, h2.up (Xt.of al e)⟩
theorem Own.rp (o : Own K B L H ds) : Rp K B H (.list ds) (.ref L) := by
  obtain ⟨nB, vs, h1, h2⟩ := o
  exact rp_lst.mpr ⟨L, vs, rfl, nB, h1, RpA.less bp_up _ _ h2⟩
theorem al_new {o : List V} (al : Al B H) : Al (Bp B L) (upd H L (.lst o)) := fun a h => by
  by_cases z : a = L
  · rw [z, upd_same]; first | exact trivial | simp
  · rw [upd_ne z]
    exact h.elim (al a) fun e => absurd e z
end
end CG
namespace CG
open PySem PySem.Spec PyProof.Rows L2
/-- a state: how many draws, the data of the objects -/
structure Tq where
  n : Int
  o : Nat → Str → Option PyData
instance : OfNat Tq 0 := ⟨⟨0, fun _ _ => none⟩⟩
noncomputable def Tq.setO (t : Tq) (i : Nat) (o' : Str → Option PyData) : Tq := ⟨t.n, fun j => if j = i then o' else t.o j⟩
/-- a thing that is drawn from: its places, where it stands, what is true of it after t draws -/
structure Dck where
  pl : Addr → Prop
  D : Addr
  adr : Nat → Addr
  us : List Nat
  ok : Hp → Tq → Prop
  live : ∀ {H : Hp} {t : Tq} {a : Addr}, ok H t → pl a → Lv (H a)
  stay : ∀ {H H1 : Hp} {t : Tq}, ok H t → (∀ a o, pl a → H a = some o → H1 a = some o) → (∀ a xs, Rd H a (.tup xs) → Rd H1 a (.tup xs)) → (∀ a x, H a = some (.own x) → H1 a = some (.own x)) → ok H1 t
  fre : ∀ {H : Hp} {t : Tq} {i : Nat} {o' : Str → Option PyData}, i ∉ us → ok H t → ok H (t.setO i o')
/-- nothing to draw from -/
noncomputable def Dck.no : Dck := ⟨fun _ => False, (0 : Nat), fun _ => (0 : Nat), [], fun _ _ => True, fun _ h => h.elim, fun _ _ _ _ => trivial, fun _ _ => trivial⟩
/-- what a slot holds -/
inductive Sl where
  | un
  | dat (d : PyData)
  | own (ds : List PyData)
  | deck (M : Dck → Prop)
  | ptr (i : Nat) (M : Dck → Prop)
  | fn (f c : Addr) (o : HO) (d : PyData) (v : V)
noncomputable abbrev En := List Sl
noncomputable def RepS (K : PySem.W.Frag) (m : Dck) (B0 B : Addr → Prop) (H : Hp) : Option Sl → Option (Option V) → Prop
  | some (.dat d), x => ∃ v, x = some (some v) ∧ Rp K B H d v
  | some (.own ds), x => ∃ p vs, x = some (some (.ref p)) ∧ B p ∧ ¬ B0 p ∧ ¬ m.pl p ∧ H p = some (.lst vs) ∧ RpA K B H ds vs
  | some (.deck M), x => x = some (some (.ref m.D)) ∧ M m
  | some (.ptr i M), x => x = some (some (.ref (m.adr i))) ∧ i ∈ m.us ∧ M m
  | some (.fn f c o d v), x => (x = some (some (.ref f)) ∧ H c = some o ∧ ¬ Lv (some o)) ∧ Rp K B H d v
  | _, _ => True
/-- the slots σ over the heap H hold what e says -/
structure Rep (K : PySem.W.Frag) (m : Dck) (B0 B : Addr → Prop) (e : En) (σ : L2.St) (H : Hp) (t : Tq) : Prop where
  al : Al B H
  pb : ∀ a, m.pl a → B a
  b0 : ∀ a, B0 a → B a
  ok : m.ok H t
  ln : e.length = σ.length
  sl : ∀ i : Nat, RepS K m B0 B H e[i]? σ[i]?
  ow : ∀ (i j : Nat) (p : Addr) (ds es : List PyData), e[i]? = some (.own ds) → e[j]? = some (.own es) → σ[i]? = some (some (.ref p)) → σ[j]? = some (some (.ref p)) → i = j
section
variable {K : PySem.W.Frag} {m : Dck} {B0 B B' : Addr → Prop} {H H0 H1 H2 : Hp} {t t' : Tq} {e : En} {σ : L2.St} {i : Nat}
theorem Dck.al (m : Dck) (h : m.ok H t) : Al m.pl H := fun a p => m.live h p
/-- what is kept but for the deck is kept but for B -/
theorem xt_wd (al : Al B H) (pb : ∀ a, m.pl a → B a) (x : Xt m.pl H H1) : Xt B H H1 := ⟨fun a o nb e => x.kp a o (fun z => nb (pb a z)) e, fun a h => by
  by_cases z : m.pl a
  · exact x.al a z
  · cases q : H a with
    | none => exact absurd q (al a h).ne
    | some o => have zz := al a h; rw [q] at zz; rw [x.kp a o z q]; exact zz⟩
theorem Dck.same (m : Dck) (h : m.ok H t) (s : Same H H1) : m.ok H1 t := m.stay h (fun a o _ e => s a o e) (fun a xs e => e.elim (fun e => .inl (s a _ e)) fun ⟨o, e⟩ => .inr ⟨o, s a _ e⟩) (fun a x e => s a _ e)
theorem Dck.putV (m : Dck) {L : Addr} {o : HO} (k : m.ok H t) (np : ¬ m.pl L) (lv : Lv (H L)) : m.ok (upd H L o) t := m.stay k (fun a u pa e => by
  rw [upd_ne (fun w : a = L => np (w ▸ pa))]
  exact e) (fun a xs e => by
  have ne : a ≠ L := fun w => by
    rw [w] at e
    rcases e with e | ⟨o, e⟩
    · rw [e] at lv; exact lv
    · rw [e] at lv; exact lv
  rcases e with e | ⟨o, e⟩
  · exact .inl (by rw [upd_ne ne]; exact e)
  · exact .inr ⟨o, by rw [upd_ne ne]; exact e⟩) (fun a x e => by
  rw [upd_ne (fun w : a = L => by rw [w] at e; rw [e] at lv; exact lv)]
  exact e)
theorem Dck.xs (m : Dck) (h : m.ok H t) (s : Same H H1) : Xt m.pl H H1 := Xt.of (m.al h) s
theorem RepS.up {x : Option Sl} {y : Option (Option V)} (h : RepS K m B0 B H x y) (pb : ∀ a, m.pl a → B a) (al : Al B H) (z : Xt m.pl H H1) : RepS K m B0 B H1 x y := by
  have w := xt_wd al pb z
  match x, h with
  | some (.dat d), h =>
    obtain ⟨v, rfl, r⟩ := h
    exact ⟨v, rfl, r.up w⟩
  | some (.own ds), h =>
    obtain ⟨p, vs, rfl, b, b0, np, hp, r⟩ := h
    exact ⟨p, vs, rfl, b, b0, np, z.kp p _ np hp, r.up w⟩
  | some (.deck M), h => exact h
  | some (.ptr _ M), h => exact h
  | some (.fn _ _ _ _ _), h => exact ⟨⟨h.1.1, w.kp _ _ (fun b => h.1.2.2 (h.1.2.1 ▸ al _ b)) h.1.2.1, h.1.2.2⟩, h.2.up w⟩
  | some .un, _ => trivial
  | none, _ => trivial
theorem Rep.up (r : Rep K m B0 B e σ H t) (x : Xt m.pl H H1) (k : m.ok H1 t') : Rep K m B0 B e σ H1 t' :=
  ⟨(xt_wd r.al r.pb x).al, r.pb, r.b0, k, r.ln, fun i => (r.sl i).up r.pb r.al x, r.ow⟩
theorem Rep.wd (r : Rep K m B0 B e σ H t) (x : Xt m.pl H H1) : Xt B H H1 := xt_wd r.al r.pb x
theorem Rep.same (r : Rep K m B0 B e σ H t) (s : Same H H1) : Rep K m B0 B e σ H1 t := r.up (m.xs r.ok s) (m.same r.ok s)
/-- reading a slot -/
noncomputable def rdS : Option Sl → (PyData → Prop) → Prop
  | some (.dat d), k => k d
  | _, _ => False
theorem Rep.var {k : PyData → Prop} (r : Rep K m B0 B e σ H t) (h : rdS e[i]? k) : ∃ d v, σ[i]? = some (some v) ∧ k d ∧ Rp K B H d v ∧ e[i]? = some (.dat d) := by
  have s := r.sl i
  cases q : e[i]? with
  | none => rw [q] at h; exact h.elim
  | some x =>
    rw [q] at h s
    cases x with
    | dat d =>
      obtain ⟨v, e1, r1⟩ := s
      exact ⟨d, v, e1, h, r1, rfl⟩
    | un => exact h.elim
    | own ds => exact h.elim
    | deck M => exact h.elim
    | ptr _ _ => exact h.elim
    | fn _ _ _ _ _ => exact h.elim
/-- a slot is set -/
theorem Rep.set {d : PyData} {v : V} (r : Rep K m B0 B e σ H t) (rv : Rp K B H d v) : Rep K m B0 B (e.set i (.dat d)) (σ.set i (some v)) H t := by
  refine ⟨r.al, r.pb, r.b0, r.ok, by rw [List.length_set, List.length_set]; exact r.ln, fun j => ?_, fun a b p ds es h1 h2 h3 h4 => ?_⟩
  · by_cases z : i = j
    · subst z
      by_cases hl : i < e.length
      · rw [List.getElem?_set_self hl, List.getElem?_set_self (by rw [← r.ln]; exact hl)]
        exact ⟨v, rfl, rv⟩
      · rw [List.getElem?_eq_none (by rw [List.length_set]; omega)]
        trivial
    · rw [List.getElem?_set_ne z, List.getElem?_set_ne z]
      exact r.sl j
  · have na : i ≠ a := fun z => by
      subst z
      by_cases hl : i < e.length
      · rw [List.getElem?_set_self hl] at h1; cases h1
      · rw [List.getElem?_eq_none (by rw [List.length_set]; omega)] at h1; cases h1
    have nb : i ≠ b := fun z => by
      subst z
      by_cases hl : i < e.length
      · rw [List.getElem?_set_self hl] at h2; cases h2
      · rw [List.getElem?_eq_none (by rw [List.length_set]; omega)] at h2; cases h2
    rw [List.getElem?_set_ne na] at h1 h3
    rw [List.getElem?_set_ne nb] at h2 h4
    exact r.ow a b p ds es h1 h2 h3 h4
/-- a slot is forgotten -/
theorem Rep.drop {x : Option V} (r : Rep K m B0 B e σ H t) : Rep K m B0 B (e.set i .un) (σ.set i x) H t := by
  refine ⟨r.al, r.pb, r.b0, r.ok, by rw [List.length_set, List.length_set]; exact r.ln, fun j => ?_, fun a b p ds es h1 h2 h3 h4 => ?_⟩
  · by_cases z : i = j
    · subst z
      by_cases hl : i < e.length
      · rw [List.getElem?_set_self hl]
        trivial
      · rw [List.getElem?_eq_none (by rw [List.length_set]; omega)]
        trivial
    · rw [List.getElem?_set_ne z, List.getElem?_set_ne z]
      exact r.sl j
  · have na : i ≠ a := fun z => by
      subst z
      by_cases hl : i < e.length
      · rw [List.getElem?_set_self hl] at h1; cases h1
      · rw [List.getElem?_eq_none (by rw [List.length_set]; omega)] at h1; cases h1
    have nb : i ≠ b := fun z => by
      subst z
      by_cases hl : i < e.length
      · rw [List.getElem?_set_self hl] at h2; cases h2
      · rw [List.getElem?_eq_none (by rw [List.length_set]; omega)] at h2; cases h2
    rw [List.getElem?_set_ne na] at h1 h3
    rw [List.getElem?_set_ne nb] at h2 h4
    exact r.ow a b p ds es h1 h2 h3 h4
/-- more places are avoided -/
theorem RepS.grow {x : Option Sl} {y : Option (Option V)} (g : Gw B B' H) (h : RepS K m B0 B H x y) : RepS K m B0 B' H x y := by
  match x, h with
  | some (.dat d), h =>
    obtain ⟨v, rfl, r⟩ := h
    exact ⟨v, rfl, Rp.grow g _ _ r⟩
  | some (.own ds), h =>
    obtain ⟨p, vs, rfl, b, b0, np, hp, r⟩ := h
    exact ⟨p, vs, rfl, g.up p b, b0, np, hp, RpA.grow g _ _ r⟩
  | some (.deck M), h => exact h
  | some (.ptr _ M), h => exact h
  | some (.fn _ _ _ _ _), h => exact ⟨h.1, Rp.grow g _ _ h.2⟩
  | some .un, _ => trivial
  | none, _ => trivial
/-- a place that came later is avoided -/
theorem Rep.under {L : Addr} (r : Rep K m B0 B e σ H t) (n : H L = none) (x : Xt m.pl H H1) (k : m.ok H1 t') (h1 : Lv (H1 L)) : Rep K m B0 (Bp B L) e σ H1 t' := by
  have g : Gw B (Bp B L) H := gw_new n
  have al : Al (Bp B L) H1 := fun a h => h.elim (fun b => (xt_wd r.al r.pb x).al a b) fun e => e ▸ h1
  have y : Xt (Bp B L) H H1 := ⟨fun a u nb e => x.kp a u (fun z => nb (.inl (r.pb a z))) e, al⟩
  refine ⟨al, fun a p => .inl (r.pb a p), fun a p => .inl (r.b0 a p), k, r.ln, fun i => ?_, r.ow⟩
  have h := RepS.grow g (r.sl i)
  revert h
  generalize e[i]? = y
  generalize σ[i]? = z
  intro h
  match y, h with
  | some (.dat d), h =>
    obtain ⟨v, rfl, r⟩ := h
    exact ⟨v, rfl, r.up (by assumption)⟩
  | some (.own ds), h =>
    obtain ⟨p, vs, rfl, b, b0, np, hp, r⟩ := h
    exact ⟨p, vs, rfl, b, b0, np, x.kp p _ np hp, r.up (by assumption)⟩
  | some (.deck M), h => exact h
  | some (.ptr _ M), h => exact h
  | some (.fn _ _ _ _ _), h => exact ⟨⟨h.1.1, x.kp _ _ (fun b => h.1.2.2 (h.1.2.1 ▸ r.al _ (r.pb _ b))) h.1.2.1, h.1.2.2⟩, h.2.up (by assumption)⟩
  | some .un, _ => trivial
  | none, _ => trivial
end
noncomputable abbrev PK := PyData → Tq → Prop
/-- a reading, its wish over data -/
structure AE (K : PySem.W.Frag) where
  te : TE
  wp : En → Tq → PK → Prop
  ok : ∀ {m : Dck} {B0 B : Addr → Prop} {e : En} {σ : L2.St} {H : Hp} {t : Tq} {k : PK}, Rep K m B0 B e σ H t → wp e t k → ∀ Q : VK,
    (∀ v d H2 t', Xt m.pl H H2 → m.ok H2 t' → k d t' → Rp K B H2 d v → Q v H2) → te σ H Q
structure AA (K : PySem.W.Frag) where
  ta : TA
  wp : En → Tq → (List PyData → Tq → Prop) → Prop
  ok : ∀ {m : Dck} {B0 B : Addr → Prop} {e : En} {σ : L2.St} {H : Hp} {t : Tq} {k : List PyData → Tq → Prop}, Rep K m B0 B e σ H t → wp e t k → ∀ Q : List V → Hp → Prop,
    (∀ vs ds H2 t', Xt m.pl H H2 → m.ok H2 t' → k ds t' → RpA K B H2 ds vs → Q vs H2) → ta σ H Q
structure AT (K : PySem.W.Frag) where
  tt : TT
  wp : En → Tq → (Bool → Tq → Prop) → Prop
  ok : ∀ {m : Dck} {B0 B : Addr → Prop} {e : En} {σ : L2.St} {H : Hp} {t : Tq} {k : Bool → Tq → Prop}, Rep K m B0 B e σ H t → wp e t k → ∀ Q : Bool → Hp → Prop,
    (∀ b H2 t', Xt m.pl H H2 → m.ok H2 t' → k b t' → Q b H2) → tt σ H Q
structure AO (K : PySem.W.Frag) where
  tO : TO
  wp : En → Tq → (Option Int → Tq → Prop) → Prop
  ok : ∀ {m : Dck} {B0 B : Addr → Prop} {e : En} {σ : L2.St} {H : Hp} {t : Tq} {k : Option Int → Tq → Prop}, Rep K m B0 B e σ H t → wp e t k → ∀ Q : Option Int → Hp → Prop,
    (∀ b H2 t', Xt m.pl H H2 → m.ok H2 t' → k b t' → Q b H2) → tO σ H Q
/-- an operation on data -/
structure A2 (K : PySem.W.Frag) where
  r : R2
  f : PyData → PyData → (PyData → Prop) → Prop
  ok : ∀ {B : Addr → Prop} {a b : PyData} {k : PyData → Prop}, f a b k → ∃ c, k c ∧ RvD K B r a b c
structure A1 (K : PySem.W.Frag) where
  r : V → Hp → VK → Prop
  f : PyData → (PyData → Prop) → Prop
  ok : ∀ {B : Addr → Prop} {a : PyData} {k : PyData → Prop}, f a k → ∃ c, k c ∧ RuD K B r a c
structure AC (K : PySem.W.Frag) where
  r : List V → Hp → VK → Prop
  f : List PyData → (PyData → Prop) → Prop
  ok : ∀ {B : Addr → Prop} {as : List PyData} {k : PyData → Prop}, f as k → ∃ c, k c ∧ RcD K B r as c
/-- what a def does to data: the result and the draws -/
structure Pm where
  w : List PyData → Tq → PK → Prop
  mono : ∀ {ds : List PyData} {t : Tq} {k k' : PK}, (∀ d t', k d t' → k' d t') → w ds t k → w ds t k'
/-- the promise of a def over data -/
noncomputable def spA (K : PySem.W.Frag) (p : Pm) : Sp := fun vs H Q _ => ∃ (m : Dck) (B : Addr → Prop) (t : Tq) (ds : List PyData), Al B H ∧ (∀ a, m.pl a → B a) ∧ m.ok H t ∧ RpA K B H ds vs ∧
  p.w ds t fun d t' => ∀ v H', Xt m.pl H H' → m.ok H' t' → Rp K B H' d v → Q v H'
/-- .. whose first argument is what is drawn from -/
noncomputable def spD (K : PySem.W.Frag) (M : Dck → Prop) (p : Pm) : Sp := fun vs H Q _ => ∃ (m : Dck) (B : Addr → Prop) (t : Tq) (ds : List PyData) (ws : List V), vs = .ref m.D :: ws ∧ M m ∧ Al B H ∧ (∀ a, m.pl a → B a) ∧ m.ok H t ∧ RpA K B H ds ws ∧
  p.w ds t fun d t' => ∀ v H', Xt m.pl H H' → m.ok H' t' → Rp K B H' d v → Q v H'
section
variable {K : PySem.W.Frag}
noncomputable def AE.var (K : PySem.W.Frag) (i : Nat) : AE K := ⟨tVar i, fun e t k => rdS e[i]? fun d => k d t, fun {m B0 B e σ H t k} r h Q q => by
  obtain ⟨d, v, e1, hk, rv, _⟩ := r.var h
  exact ⟨v, e1, q v d H t (Xt.refl (m.al r.ok)) r.ok hk rv⟩⟩
noncomputable def AE.int (K : PySem.W.Frag) (i : Int) : AE K := ⟨tC (.int i), fun _ t k => k (.int i) t, fun {m B0 B e σ H t k} r h Q q => q _ _ H t (Xt.refl (m.al r.ok)) r.ok h (rp_int.mpr rfl)⟩
noncomputable def AE.bl (K : PySem.W.Frag) (b : Bool) : AE K := ⟨tC (.bl b), fun _ t k => k (.bool b) t, fun {m B0 B e σ H t k} r h Q q => q _ _ H t (Xt.refl (m.al r.ok)) r.ok h (rp_bl.mpr rfl)⟩
noncomputable def AE.str (K : PySem.W.Frag) (z : Str) : AE K := ⟨tC (.str z), fun _ t k => k (.str z) t, fun {m B0 B e σ H t k} r h Q q => q _ _ H t (Xt.refl (m.al r.ok)) r.ok h (rp_str.mpr rfl)⟩
noncomputable def AE.non (K : PySem.W.Frag) : AE K := ⟨tC .non, fun _ t k => k .none t, fun {m B0 B e σ H t k} r h Q q => q _ _ H t (Xt.refl (m.al r.ok)) r.ok h (rp_non.mpr rfl)⟩
noncomputable def AE.op (o : A2 K) (a b : AE K) : AE K := ⟨tOp o.r a.te b.te, fun e t k => a.wp e t fun x t1 => b.wp e t1 fun y t2 => o.f x y fun z => k z t2, fun {m B0 B e σ H t k} r h Q q =>
  a.ok r h _ fun v x H1 t1 x1 k1 h1 r1 => b.ok (r.up x1 k1) h1 _ fun w y H2 t2 x2 k2 h2 r2 => by
    obtain ⟨c, hc, rc⟩ := o.ok (B := B) h2
    have s1 := r.up x1 k1
    have s2 := s1.up x2 k2
    exact rc H2 v w s2.al (r1.up (s1.wd x2)) r2 Q fun z H3 e3 r3 => q z c H3 t2 (x1.trans (x2.trans (m.xs k2 e3))) (m.same k2 e3) hc r3⟩
noncomputable def AE.un (o : A1 K) (a : AE K) : AE K := ⟨tUn o.r a.te, fun e t k => a.wp e t fun x t1 => o.f x fun z => k z t1, fun {m B0 B e σ H t k} r h Q q =>
  a.ok r h _ fun v x H1 t1 x1 k1 h1 r1 => by
    obtain ⟨c, hc, rc⟩ := o.ok (B := B) h1
    exact rc H1 v (r.up x1 k1).al r1 Q fun z H3 e3 r3 => q z c H3 t1 (x1.trans (m.xs k1 e3)) (m.same k1 e3) hc r3⟩
noncomputable def AA.nil (K : PySem.W.Frag) : AA K := ⟨tNil, fun _ t k => k [] t, fun {m B0 B e σ H t k} r h Q q => q _ _ H t (Xt.refl (m.al r.ok)) r.ok h RpA.nil⟩
noncomputable def AA.cons (a : AE K) (b : AA K) : AA K := ⟨tCons a.te b.ta, fun e t k => a.wp e t fun x t1 => b.wp e t1 fun xs t2 => k (x :: xs) t2, fun {m B0 B e σ H t k} r h Q q =>
  a.ok r h _ fun v x H1 t1 x1 k1 h1 r1 => b.ok (r.up x1 k1) h1 _ fun vs xs H2 t2 x2 k2 h2 r2 =>
    q _ _ H2 t2 (x1.trans x2) k2 h2 (.cons (r1.up ((r.up x1 k1).wd x2)) r2)⟩
noncomputable def AE.tup (a : AA K) : AE K := ⟨tTup a.ta, fun e t k => a.wp e t fun ds t1 => ds.length ≤ 100000 ∧ k (.tuple ds) t1, fun {m B0 B e σ H t k} r h Q q =>
  a.ok r h _ fun vs ds H1 t1 x1 k1 h1 r1 => ⟨by rw [← r1.length]; exact Nat.le_trans h1.1 (by decide), fun p np =>
    q _ _ _ t1 (x1.trans (m.xs k1 (same_new np))) (m.same k1 (same_new np)) h1.2
      (rp_tup.mpr ⟨p, vs, rfl, .inl ((r.up x1 k1).al.new np), SqT.of upd_same, r1.up (Xt.of (r.up x1 k1).al (same_new np))⟩)⟩⟩
noncomputable def AE.lst (a : AA K) : AE K := ⟨tLst a.ta, fun e t k => a.wp e t fun ds t1 => ds.length ≤ 100000 ∧ k (.list ds) t1, fun {m B0 B e σ H t k} r h Q q =>
  a.ok r h _ fun vs ds H1 t1 x1 k1 h1 r1 => ⟨by rw [← r1.length]; exact Nat.le_trans h1.1 (by decide), fun p np =>
    q _ _ _ t1 (x1.trans (m.xs k1 (same_new np))) (m.same k1 (same_new np)) h1.2
      (rp_lst.mpr ⟨p, vs, rfl, (r.up x1 k1).al.new np, upd_same, r1.up (Xt.of (r.up x1 k1).al (same_new np))⟩)⟩⟩
noncomputable def AE.cb (o : AC K) (a : AA K) : AE K := ⟨tCB o.r a.ta, fun e t k => a.wp e t fun ds t1 => o.f ds fun z => k z t1, fun {m B0 B e σ H t k} r h Q q =>
  a.ok r h _ fun vs ds H1 t1 x1 k1 h1 r1 => by
    obtain ⟨c, hc, rc⟩ := o.ok (B := B) h1
    exact rc H1 vs (r.up x1 k1).al r1 Q fun z H3 e3 r3 => q z c H3 t1 (x1.trans (m.xs k1 e3)) (m.same k1 e3) hc r3⟩
/-- f(..) -/
noncomputable def AE.call (p : Pm) (E : XK) (a : AA K) : AE K := ⟨tCall (spA K p) [] E a.ta, fun e t k => a.wp e t fun ds t1 => p.w ds t1 k, fun {m B0 B e σ H t k} r h Q q =>
  a.ok r h _ fun vs ds H1 t1 x1 k1 h1 r1 => by
    have s := r.up x1 k1
    refine ⟨m, B, t1, ds, s.al, s.pb, k1, by rw [List.append_nil]; exact r1, p.mono (fun d t' hk => ?_) h1⟩
    exact fun v H' x k2 rv => q v d H' t' (x1.trans x) k2 hk rv⟩
noncomputable def dkS : Option Sl → (Dck → Prop) → Prop
  | some (.deck M), N => M = N
  | _, _ => False
theorem Rep.dk {m : Dck} {B0 B : Addr → Prop} {e : En} {σ : L2.St} {H : Hp} {t : Tq} {i : Nat} {M : Dck → Prop} (r : Rep K m B0 B e σ H t) (h : dkS e[i]? M) : σ[i]? = some (some (.ref m.D)) ∧ M m := by
  have s := r.sl i
  cases q : e[i]? with
  | none => rw [q] at h; exact h.elim
  | some x =>
    rw [q] at h s
    cases x with
    | deck N =>
      obtain rfl : N = M := h
      exact s
    | un => exact h.elim
    | own ds => exact h.elim
    | ptr _ _ => exact h.elim
    | fn _ _ _ _ _ => exact h.elim
    | dat M => exact h.elim
/-- f(deck, ..) -/
noncomputable def AE.callD (M : Dck → Prop) (p : Pm) (E : XK) (i : Nat) (a : AA K) : AE K := ⟨tCall (spD K M p) [] E (tCons (tVar i) a.ta), fun e t k => dkS e[i]? M ∧ a.wp e t fun ds t1 => p.w ds t1 k, fun {m B0 B e σ H t k} r h Q q => by
  obtain ⟨h1, h2⟩ := r.dk h.1
  refine ⟨.ref m.D, h1, a.ok r h.2 _ fun vs ds H1 t1 x1 k1 h3 r1 => ?_⟩
  have s := r.up x1 k1
  refine ⟨m, B, t1, ds, vs, by rw [List.append_nil], h2, s.al, s.pb, k1, r1, p.mono (fun d t' hk => ?_) h3⟩
  exact fun v H' x k2 rv => q v d H' t' (x1.trans x) k2 hk rv⟩
noncomputable def unB : PyData → (Bool → Prop) → Prop
  | .bool b, k => k b
  | _, _ => False
theorem unB_of {d : PyData} {k : Bool → Prop} (h : unB d k) : ∃ b, d = .bool b ∧ k b := by
  cases d with
  | bool b => exact ⟨b, rfl, h⟩
  | _ => exact h.elim
noncomputable def AT.test (a : AE K) : AT K := ⟨tTest a.te, fun e t k => a.wp e t fun d t1 => unB d fun b => k b t1, fun {m B0 B e σ H t k} r h Q q =>
  a.ok r h _ fun v d H1 t1 x1 k1 h1 r1 => by
    obtain ⟨b, rfl, hb⟩ := unB_of h1
    exact ⟨b, rp_bl.mp r1, q b H1 t1 x1 k1 hb⟩⟩
noncomputable def AT.b (a : AE K) : AT K := ⟨tB a.te, fun e t k => a.wp e t fun d t1 => unB d fun b => k b t1, fun {m B0 B e σ H t k} r h Q q =>
  a.ok r h _ fun v d H1 t1 x1 k1 h1 r1 => by
    obtain ⟨b, rfl, hb⟩ := unB_of h1
    exact ⟨b, rp_bl.mp r1, q b H1 t1 x1 k1 hb⟩⟩
noncomputable def AT.not (a : AT K) : AT K := ⟨tNot a.tt, fun e t k => a.wp e t fun b t1 => k (!b) t1, fun {m B0 B e σ H t k} r h Q q =>
  a.ok r h _ fun b H1 t1 x1 k1 h1 => q _ H1 t1 x1 k1 h1⟩
noncomputable def AT.or (a b : AT K) : AT K := ⟨tOr a.tt b.tt, fun e t k => a.wp e t fun c t1 => if c = true then k true t1 else b.wp e t1 k, fun {m B0 B e σ H t k} r h Q q =>
  a.ok r h _ fun c H1 t1 x1 k1 h1 => by
    cases c with
    | true =>
      rw [if_pos rfl] at h1 ⊢
      exact q _ H1 t1 x1 k1 h1
    | false =>
      rw [if_neg (by decide)] at h1 ⊢
      exact b.ok (r.up x1 k1) h1 _ fun c H2 t2 x2 k2 h2 => q c H2 t2 (x1.trans x2) k2 h2⟩
noncomputable def AT.yes (K : PySem.W.Frag) : AT K := ⟨tYes, fun _ t k => k true t, fun {m B0 B e σ H t k} r h Q q => q _ H t (Xt.refl (m.al r.ok)) r.ok h⟩
noncomputable def AE.or (a b : AE K) : AE K := ⟨tOrV a.te b.te, fun e t k => a.wp e t fun d t1 => unB d fun c => if c = true then k (.bool true) t1 else b.wp e t1 k, fun {m B0 B e σ H t k} r h Q q =>
  a.ok r h _ fun v d H1 t1 x1 k1 h1 r1 => by
    obtain ⟨c, rfl, h3⟩ := unB_of h1
    clear h1
    refine ⟨c, rp_bl.mp r1, ?_⟩
    cases c with
    | true =>
      rw [if_pos rfl] at h3 ⊢
      exact q _ _ H1 t1 x1 k1 h3 (rp_bl.mpr rfl)
    | false =>
      rw [if_neg (by decide)] at h3 ⊢
      exact b.ok (r.up x1 k1) h3 _ fun v d H2 t2 x2 k2 h2 r2 => q v d H2 t2 (x1.trans x2) k2 h2 r2⟩
noncomputable def AO.none (K : PySem.W.Frag) : AO K := ⟨tNoPart, fun _ t k => k .none t, fun {m B0 B e σ H t k} r h Q q => q _ H t (Xt.refl (m.al r.ok)) r.ok h⟩
noncomputable def unI : PyData → (Int → Prop) → Prop
  | .int i, k => k i
  | _, _ => False
theorem unI_of {d : PyData} {k : Int → Prop} (h : unI d k) : ∃ b, d = .int b ∧ k b := by
  cases d with
  | int b => exact ⟨b, rfl, h⟩
  | _ => exact h.elim
noncomputable def AO.some (a : AE K) : AO K := ⟨tPart a.te, fun e t k => a.wp e t fun d t1 => unI d fun i => k (.some i) t1, fun {m B0 B e σ H t k} r h Q q =>
  a.ok r h _ fun v d H1 t1 x1 k1 h1 r1 => by
    obtain ⟨c, rfl, h1⟩ := unI_of h1
    exact ⟨c, rp_int.mp r1, q _ H1 t1 x1 k1 h1⟩⟩
end
end CG
namespace CG
open PySem PySem.Spec PyProof.Rows L2
/-- the walk J goes over ds as long as what stands in H2 but for B stands -/
structure Sq (K : PySem.W.Frag) (J : It) (B : Addr → Prop) (H2 : Hp) (ds : List PyData) : Prop where
  go : ∀ i H' B', i < ds.length → Gw B B' H2 → Xt B' H2 H' → J.go i H'
  st : ∀ H' B', Gw B B' H2 → Xt B' H2 H' → J.stop ds.length H'
  yl : ∀ (i : Nat) d x H' H3 B', ds[i]? = some d → Gw B B' H2 → Xt B' H2 H' → J.yld i H' x H3 → Same H' H3 ∧ Rp K B' H3 d x
structure AI (K : PySem.W.Frag) where
  ti : TI
  wp : En → Tq → (List PyData → Tq → Prop) → Prop
  ok : ∀ {m : Dck} {B0 B : Addr → Prop} {e : En} {σ : L2.St} {H : Hp} {t : Tq} {k : List PyData → Tq → Prop}, Rep K m B0 B e σ H t → wp e t k → ∀ R : It → Hp → Prop,
    (∀ J ds H2 t', Xt m.pl H H2 → m.ok H2 t' → k ds t' → Sq K J B H2 ds → R J H2) → ti σ H R
noncomputable def unT : PyData → (List PyData → Prop) → Prop
  | .tuple ds, k => k ds
  | _, _ => False
noncomputable def unL : PyData → (List PyData → Prop) → Prop
  | .list ds, k => k ds
  | _, _ => False
theorem unT_of {d : PyData} {k : List PyData → Prop} (h : unT d k) : ∃ b, d = .tuple b ∧ k b := by
  cases d with
  | tuple b => exact ⟨b, rfl, h⟩
  | _ => exact h.elim
theorem unL_of {d : PyData} {k : List PyData → Prop} (h : unL d k) : ∃ b, d = .list b ∧ k b := by
  cases d with
  | list b => exact ⟨b, rfl, h⟩
  | _ => exact h.elim
section
variable {K : PySem.W.Frag} {B B' : Addr → Prop} {H H' : Hp} {a : Addr} {xs : List V} {ds : List PyData}
theorem sqT_on (na : ¬ B a ∨ KT K a xs) (s : SqT K H a xs) (g : Gw B B' H) (x : Xt B' H H') : SqT K H' a xs := by
  rcases na with na | na
  · rcases sqT_alive s with z | z
    · exact .inr z
    · exact x.sqT (fun w => (g.fr a w).elim na z) s
  · exact .inr na
theorem sqL_on (na : ¬ B a) (s : H a = some (.lst xs)) (g : Gw B B' H) (x : Xt B' H H') : H' a = some (.lst xs) :=
  x.kp _ _ (fun w => (g.fr a w).elim na fun z => by rw [s] at z; cases z) s
theorem sq_tup (na : ¬ B a ∨ KT K a xs) (s : SqT K H a xs) (t : RpA K B H ds xs) : Sq K (Itt K a) B H ds := by
  refine ⟨fun i H' B' hi g x => ?_, fun H' B' g x => ⟨xs, sqT_on na s g x, by rw [t.length]; exact Nat.le_refl _⟩, fun i d y H' H3 B' hd g x z => ?_⟩
  · obtain ⟨y, hy, _⟩ := t.get (i := i) (d := ds[i]) (List.getElem?_eq_getElem hi)
    exact ⟨xs, y, sqT_on na s g x, hy⟩
  · obtain ⟨rfl, z⟩ := z
    obtain ⟨y', hy, ry⟩ := t.get hd
    have e := z xs (sqT_on na s g x)
    rw [hy] at e
    cases e
    exact ⟨Same.refl _, (Rp.grow g _ _ ry).up x⟩
theorem sq_lst (na : ¬ B a) (s : H a = some (.lst xs)) (t : RpA K B H ds xs) : Sq K (Itl K a) B H ds := by
  refine ⟨fun i H' B' hi g x => ?_, fun H' B' g x => ⟨xs, SqL.of (sqL_on na s g x), by rw [t.length]; exact Nat.le_refl _⟩, fun i d y H' H3 B' hd g x z => ?_⟩
  · obtain ⟨y, hy, _⟩ := t.get (i := i) (d := ds[i]) (List.getElem?_eq_getElem hi)
    exact ⟨xs, y, SqL.of (sqL_on na s g x), hy⟩
  · obtain ⟨rfl, z⟩ := z
    obtain ⟨y', hy, ry⟩ := t.get hd
    have e := z xs (SqL.of (sqL_on na s g x))
    rw [hy] at e
    cases e
    exact ⟨Same.refl _, (Rp.grow g _ _ ry).up x⟩
theorem sq_rng {lo : Int} {n : Nat} : Sq K (Itr lo n) B H ((List.range n).map fun i : Nat => .int (lo + (i : Int))) := by
  refine ⟨fun i H' B' hi g x => ?_, fun H' B' g x => ?_, fun i d y H' H3 B' hd g x z => ?_⟩
  · rw [List.length_map, List.length_range] at hi
    exact hi
  · show n ≤ _
    rw [List.length_map, List.length_range]
    exact Nat.le_refl _
  · obtain ⟨rfl, rfl⟩ := z
    rw [List.getElem?_map] at hd
    cases q : (List.range n)[i]? with
    | none => rw [q] at hd; cases hd
    | some j =>
      rw [q] at hd
      obtain ⟨hi, e⟩ := List.getElem?_eq_some_iff.mp q
      rw [List.getElem_range] at e
      subst e
      cases hd
      exact ⟨Same.refl _, rp_int.mpr rfl⟩
end
section
variable {K : PySem.W.Frag}
noncomputable def AI.tup (a : AE K) : AI K := ⟨iTup K a.te, fun e t k => a.wp e t fun d t1 => unT d fun ds => k ds t1, fun {m B0 B e σ H t k} r h R q =>
  a.ok r h _ fun v d H1 t1 x1 k1 h1 r1 => by
    obtain ⟨ds, rfl, hk⟩ := unT_of h1
    obtain ⟨a, xs, rfl, na, s, t⟩ := rp_tup.mp r1
    exact ⟨a, rfl, ⟨_, s⟩, q _ ds H1 t1 x1 k1 hk (sq_tup na s t)⟩⟩
noncomputable def AI.lst (a : AE K) : AI K := ⟨iList K a.te, fun e t k => a.wp e t fun d t1 => unL d fun ds => k ds t1, fun {m B0 B e σ H t k} r h R q =>
  a.ok r h _ fun v d H1 t1 x1 k1 h1 r1 => by
    obtain ⟨ds, rfl, hk⟩ := unL_of h1
    obtain ⟨a, xs, rfl, na, s, t⟩ := rp_lst.mp r1
    exact ⟨a, rfl, ⟨_, SqL.of s⟩, q _ ds H1 t1 x1 k1 hk (sq_lst na s t)⟩⟩
noncomputable def rngD (lo hi : Int) : List PyData := (List.range (hi - lo).toNat).map fun i : Nat => .int (lo + (i : Int))
noncomputable def unI1 : List PyData → (Int → Prop) → Prop
  | [.int i], k => k i
  | _, _ => False
theorem unI1_of {ds : List PyData} {k : Int → Prop} (h : unI1 ds k) : ∃ i, ds = [.int i] ∧ k i := by
  unfold unI1 at h
  split at h
  · exact ⟨_, rfl, h⟩
  · exact h.elim
noncomputable def unI2 : List PyData → (Int → Int → Prop) → Prop
  | [.int i, .int j], k => k i j
  | _, _ => False
noncomputable def AI.rng (a : AA K) : AI K := ⟨iRng1 a.ta, fun e t k => a.wp e t fun ds t1 => unI1 ds fun n => (-(2 ^ 62) ≤ n ∧ n < 2 ^ 62) ∧ k (rngD 0 n) t1, fun {m B0 B e σ H t k} r h R q =>
  a.ok r h _ fun vs ds H1 t1 x1 k1 h1 r1 => by
    obtain ⟨n, rfl, hb, hk⟩ := unI1_of h1
    obtain rfl : vs = [.int n] := RpA.ints_inv (ns := [n]) r1
    refine ⟨n, rfl, hb.1, hb.2, q _ _ H1 t1 x1 k1 hk ?_⟩
    unfold rngD
    rw [Int.sub_zero]
    exact sq_rng⟩
noncomputable def unT1 : List PyData → (List PyData → Prop) → Prop
  | [.tuple ds], k => k ds
  | _, _ => False
structure AG (K : PySem.W.Frag) where
  tg : TG
  sl : List Nat
  wp : PyData → En → (En → Prop) → Prop
  ok : ∀ {m : Dck} {B0 B : Addr → Prop} {e : En} {σ : L2.St} {H : Hp} {t : Tq} {k : En → Prop} {d : PyData} {v : V}, Rep K m B0 B e σ H t → Rp K B H d v → wp d e k → ∀ Q : L2.St → Hp → Prop,
    (∀ e' σ', k e' → Rep K m B0 B e' σ' H t → σ'.length = σ.length → (∀ j : Nat, j ∉ sl → σ'[j]? = σ[j]?) → Q σ' H) → tg v σ H Q
structure AGs (K : PySem.W.Frag) where
  tg : TGs
  n : Nat
  sl : List Nat
  wp : List PyData → En → (En → Prop) → Prop
  ok : ∀ {m : Dck} {B0 B : Addr → Prop} {e : En} {σ : L2.St} {H : Hp} {t : Tq} {k : En → Prop} {ds : List PyData} {vs : List V}, Rep K m B0 B e σ H t → RpA K B H ds vs → wp ds e k → ds.length = n ∧ ∀ Q : L2.St → Hp → Prop,
    (∀ e' σ', k e' → Rep K m B0 B e' σ' H t → σ'.length = σ.length → (∀ j : Nat, j ∉ sl → σ'[j]? = σ[j]?) → Q σ' H) → tg vs σ H Q
noncomputable def AG.name (K : PySem.W.Frag) (i : Nat) : AG K := ⟨gName i, [i], fun d e k => k (e.set i (.dat d)), fun {m B0 B e σ H t k d v} r rv h Q q =>
  q _ _ h (r.set rv) (List.length_set) fun j hj => List.getElem?_set_ne (fun z => hj (by rw [z]; simp))⟩
noncomputable def AGs.nil (K : PySem.W.Frag) : AGs K := ⟨gNil, 0, [], fun ds e k => ds = [] ∧ k e, fun {m B0 B e σ H t k ds vs} r rv h => ⟨by rw [h.1]; rfl, fun Q q => by
  obtain ⟨rfl, hk⟩ := h
  exact ⟨rpa_nil.mp rv, q _ _ hk r rfl fun _ _ => rfl⟩⟩⟩
noncomputable def hdW : List PyData → (PyData → List PyData → Prop) → Prop
  | d :: ds, k => k d ds
  | [], _ => False
noncomputable def AGs.cons (i : Nat) (g : AGs K) : AGs K := ⟨gCons (gName i) g.tg, g.n + 1, i :: g.sl, fun ds e k => hdW ds fun d ds => g.wp ds (e.set i (.dat d)) k, fun {m B0 B e σ H t k ds vs} r rv h => by
  match ds, rv, h with
  | d :: ds, rv, h =>
    obtain ⟨v, ws, rfl, h1, h2⟩ := rpa_cons.mp rv
    obtain ⟨hn, hq⟩ := g.ok (r.set (i := i) h1) h2 h
    refine ⟨by rw [List.length_cons, hn], fun Q q => ⟨v, ws, rfl, hq Q fun e' σ' hk r' hl hj => ?_⟩⟩
    refine q e' σ' hk r' (by rw [hl, List.length_set]) fun j hn => ?_
    rw [hj j (fun z => hn (List.mem_cons_of_mem _ z)), List.getElem?_set_ne (fun z => hn (by rw [z]; simp))]⟩
noncomputable def AG.tup (g : AGs K) : AG K := ⟨gTup K g.n g.tg, g.sl, fun d e k => unT d fun ds => g.wp ds e k, fun {m B0 B e σ H t k d v} r rv h Q q => by
  obtain ⟨ds, rfl, h⟩ := unT_of h
  obtain ⟨a, xs, rfl, na, s, t⟩ := rp_tup.mp rv
  obtain ⟨hn, hq⟩ := g.ok r t h
  exact ⟨a, xs, rfl, s, by rw [← t.length, hn], hq Q q⟩⟩
noncomputable def wipeE (e : En) : List Nat → En
  | [] => e
  | v :: vs => (wipeE e vs).set v .un
theorem Rep.wipe {m : Dck} {B0 B : Addr → Prop} {e : En} {σ : L2.St} {H : Hp} {t : Tq} (r : Rep K m B0 B e σ H t) : ∀ vs : List Nat, Rep K m B0 B (wipeE e vs) (L2.wipe σ vs) H t
  | [] => r
  | v :: vs => by
    unfold wipeE L2.wipe
    exact (Rep.wipe r vs).drop
theorem wipe_eq {σ σ' : L2.St} : ∀ {vs : List Nat}, σ'.length = σ.length → (∀ j : Nat, j ∉ vs → σ'[j]? = σ[j]?) → L2.wipe σ' vs = L2.wipe σ vs := by
  have key : ∀ (vs : List Nat) (τ : L2.St) (j : Nat), (L2.wipe τ vs)[j]? = if j ∈ vs ∧ j < τ.length then some none else τ[j]? := by
    intro vs
    induction vs with
    | nil => intro τ j; simp [L2.wipe]
    | cons v vs ih =>
      intro τ j
      unfold L2.wipe
      by_cases e : v = j
      · subst e
        by_cases hl : v < τ.length
        · rw [List.getElem?_set_self (by rw [wipe_length]; exact hl), if_pos ⟨by simp, hl⟩]
        · rw [List.getElem?_eq_none (by rw [List.length_set, wipe_length]; omega), if_neg (fun z => hl z.2), List.getElem?_eq_none (by omega)]
      · rw [List.getElem?_set_ne e, ih]
        have : (j ∈ v :: vs) ↔ j ∈ vs := by simp [Ne.symm e]
        simp only [this]
  intro vs hl h
  apply List.ext_getElem?
  intro j
  rw [key, key, hl]
  by_cases hj : j ∈ vs
  · by_cases hlt : j < σ.length
    · rw [if_pos ⟨hj, hlt⟩, if_pos ⟨hj, hlt⟩]
    · rw [if_neg (fun z => hlt z.2), if_neg (fun z => hlt z.2), List.getElem?_eq_none (by omega), List.getElem?_eq_none (by omega)]
  · rw [if_neg (fun z => hj z.1), if_neg (fun z => hj z.1), h j hj]
theorem wipe_off {σ : L2.St} : ∀ {vs : List Nat} {j : Nat}, j ∉ vs → (L2.wipe σ vs)[j]? = σ[j]?
  | [], j, _ => rfl
  | v :: vs, j, h => by
    unfold L2.wipe
    rw [List.getElem?_set_ne (fun z => h (by rw [z]; simp)), wipe_off (fun z => h (List.mem_cons_of_mem _ z))]
structure AF (K : PySem.W.Frag) where
  te : TE
  wp : En → Tq → (List PyData → Tq → Prop) → Prop
  ok : ∀ {m : Dck} {B0 B : Addr → Prop} {e : En} {σ : L2.St} {H : Hp} {t : Tq} {k : List PyData → Tq → Prop}, Rep K m B0 B e σ H t → wp e t k → ∀ Q : VK,
    (∀ L ds vs H2 t', H L = none → Xt m.pl H H2 → m.ok H2 t' → k ds t' → H2 L = some (.lst vs) → RpA K (Bp B L) H2 ds vs → Q (.ref L) H2) → te σ H Q
noncomputable def AF.ae (a : AF K) : AE K := ⟨a.te, fun e t k => a.wp e t fun ds t1 => k (.list ds) t1, fun {m B0 B e σ H t k} r h Q q =>
  a.ok r h Q fun L ds vs H2 t' nL x k2 hk hL ra => q _ _ H2 t' x k2 hk (rp_lst.mpr ⟨L, vs, rfl, r.al.new nL, hL, RpA.less bp_up _ _ ra⟩)⟩
theorem none_back {m : Dck} {H H1 : Hp} {t : Tq} {L : Addr} (k : m.ok H t) (x : Xt m.pl H H1) (n : H1 L = none) : H L = none := by
  cases q : H L with
  | none => rfl
  | some o =>
    by_cases z : m.pl L
    · exact absurd n (x.al L z).ne
    · rw [x.kp L o z q] at n
      cases n
noncomputable def AF.lst (a : AA K) : AF K := ⟨tLst a.ta, fun e t k => a.wp e t fun ds t1 => ds.length ≤ 100000 ∧ k ds t1, fun {m B0 B e σ H t k} r h Q q =>
  a.ok r h _ fun vs ds H1 t1 x1 k1 h1 r1 => ⟨by rw [← r1.length]; exact Nat.le_trans h1.1 (by decide), fun p np => by
    have s := same_new (o := .lst vs) np
    have r2 := (r.up x1 k1)
    exact q p ds vs _ t1 (none_back r.ok x1 np) (x1.trans (m.xs k1 s)) (m.same k1 s) h1.2 upd_same ((RpA.grow (gw_new np) _ _ r1).up ⟨fun a o _ e => s a o e, al_new r2.al⟩)⟩⟩
/-- [a for g in it if c] -/
noncomputable def AF.lc (it : AI K) (g : AG K) (c : AT K) (a : AE K) (vs : List Nat) (hs : ∀ j ∈ g.sl, j ∈ vs) : AF K :=
  ⟨tLc it.ti g.tg c.tt a.te vs, fun e t k => it.wp e t fun ds t1 => ds.length ≤ 1000000 ∧ ∃ I : Nat → List PyData → Tq → Prop, I 0 [] t1 ∧
    (∀ (i : Nat) d acc t', ds[i]? = some d → I i acc t' → g.wp d (wipeE e vs) fun e2 => c.wp e2 t' fun b t3 => if b = true then a.wp e2 t3 fun x t4 => I (i + 1) (acc ++ [x]) t4 else I (i + 1) acc t3) ∧
    ∀ acc t', I ds.length acc t' → k acc t', fun {m B0 B e σ H t k} r h Q q => by
  refine it.ok r h _ fun J ds H1 t1 x1 k1 h1 sq => ?_
  obtain ⟨hl, I, i0, is, ie⟩ := h1
  intro L nL
  have r1 := r.up x1 k1
  have nB : ¬ B L := r1.al.new nL
  have nP : ¬ m.pl L := fun z => nB (r.pb L z)
  have gw : Gw B (Bp B L) H1 := gw_new nL
  refine ⟨fun i mm H' => mm = ds.length - i ∧ i ≤ ds.length ∧ ∃ acc ws t', I i acc t' ∧ Xt m.pl H1 H' ∧ m.ok H' t' ∧ H' L = some (.lst ws) ∧ RpA K (Bp B L) H' acc ws ∧ acc.length ≤ i, ⟨ds.length, by simp, Nat.zero_le _, [], [], t1, i0, m.xs k1 (same_new nL), m.same k1 (same_new nL), upd_same, RpA.nil, Nat.le_refl _⟩, ?_⟩
  rintro i mm H' ⟨rfl, hi, acc, ws, t', hI, x', k', hL, ra, hal⟩
  have rep := r1.under nL x' k' (by rw [hL]; first | exact trivial | simp)
  have xw : Xt (Bp B L) H1 H' := ⟨fun a u nb e => x'.kp a u (fun z => nb (.inl (r.pb a z))) e, rep.al⟩
  by_cases hlt : i < ds.length
  · refine .inr ⟨sq.go i H' _ hlt gw xw, fun H'' => ∃ acc ws t', I (i + 1) acc t' ∧ Xt m.pl H1 H'' ∧ m.ok H'' t' ∧ H'' L = some (.lst ws) ∧ RpA K (Bp B L) H'' acc ws ∧ acc.length ≤ i + 1, fun H'' p => ⟨ds.length - (i + 1), by omega, rfl, hlt, p⟩, fun x H3 y => ?_⟩
    obtain ⟨s3, rx⟩ := sq.yl i ds[i] x H' H3 _ (List.getElem?_eq_getElem hlt) gw xw y
    have rep3 := rep.same s3
    refine g.ok (rep3.wipe vs) rx (is i ds[i] acc t' (List.getElem?_eq_getElem hlt) hI) _ fun e2 σ2 hk2 rep4 hln hof => ⟨?_, ?_⟩
    · have e1 : L2.wipe σ2 vs = L2.wipe (L2.wipe σ vs) vs := wipe_eq hln fun j hj => hof j fun z => hj (hs j z)
      rw [e1]
      exact wipe_eq (wipe_length _ _) fun j hj => wipe_off hj
    · refine c.ok rep4 hk2 _ fun b H5 t5 x5 k5 h5 => ?_
      have rep5 := rep4.up x5 k5
      have x15 : Xt m.pl H1 H5 := (x'.trans (m.xs rep.ok s3)).trans x5
      have hL5 : H5 L = some (.lst ws) := x5.kp _ _ nP (s3 _ _ hL)
      have ra5 := (ra.up (Xt.of rep.al s3)).up (rep3.wd x5)
      cases b with
      | true =>
        rw [if_pos rfl] at h5 ⊢
        refine a.ok rep5 h5 _ fun z d H6 t6 x6 k6 h6 r6 => ?_
        have hL6 : H6 L = some (.lst ws) := x6.kp _ _ nP hL5
        have al6 := (rep5.up x6 k6).al
        have y6 : Xt (Bp B L) H6 (upd H6 L (.lst (ws ++ [z]))) := xt_put al6
        refine ⟨ws, hL6, ?_, acc ++ [d], ws ++ [z], t6, h6, ⟨fun b o nb e => ?_, fun b hb => ?_⟩, m.putV k6 nP (by rw [hL6]; exact trivial), upd_same, ?_, by rw [List.length_append]; show acc.length + 1 ≤ _; omega⟩
        · rw [← ra.length]
          exact Nat.lt_of_lt_of_le (show acc.length < 1000001 by omega) (by decide)
        · rw [upd_ne (ne_of_none e nL)]
          exact x6.kp b o nb (x15.kp b o nb e)
        · rw [upd_ne (fun w : b = L => nP (w ▸ hb))]
          exact x6.al b hb
        · exact RpA.append ((ra5.up (rep5.wd x6)).up y6) (.cons (r6.up y6) .nil)
      | false =>
        rw [if_neg (by decide)] at h5 ⊢
        exact ⟨acc, ws, t5, h5, x15, k5, hL5, ra5, by omega⟩
  · have e1 : i = ds.length := by omega
    subst e1
    exact .inl ⟨sq.st H' _ gw xw, q L acc ws H' t' (none_back r.ok x1 nL) (x1.trans x') k' (ie acc t' hI) hL ra⟩⟩
/-- list(x) -/
noncomputable def unS1 : List PyData → (List PyData → Prop) → Prop
  | [.tuple ds], k => k ds
  | [.list ds], k => k ds
  | _, _ => False
noncomputable def AF.list (a : AA K) : AF K := ⟨tCB (rLstU K) a.ta, fun e t k => a.wp e t fun ds t1 => unS1 ds fun es => k es t1, fun {m B0 B e σ H t k} r h Q q =>
  a.ok r h _ fun vs ds H1 t1 x1 k1 h1 r1 => by
    have r2 := (r.up x1 k1)
    have fin : ∀ (p : Addr) (es : List PyData) (ws : List V), H1 p = none → RpA K B H1 es ws → k es t1 → Q (.ref p) (upd H1 p (.lst ws)) := fun p es ws np re hk => by
      have s := same_new (o := .lst ws) np
      exact q p es ws _ t1 (none_back r.ok x1 np) (x1.trans (m.xs k1 s)) (m.same k1 s) hk upd_same ((RpA.grow (gw_new np) _ _ re).up ⟨fun a o _ e => s a o e, al_new r2.al⟩)
    unfold unS1 at h1
    split at h1
    · obtain ⟨v, w, rfl, rv, rw⟩ := rpa_cons.mp r1
      obtain rfl := rpa_nil.mp rw
      obtain ⟨b, xs, rfl, na, s, t⟩ := rp_tup.mp rv
      exact ⟨b, xs, rfl, .inr s, fun l nl => fin l _ xs nl t h1⟩
    · obtain ⟨v, w, rfl, rv, rw⟩ := rpa_cons.mp r1
      obtain rfl := rpa_nil.mp rw
      obtain ⟨b, xs, rfl, na, s, t⟩ := rp_lst.mp rv
      exact ⟨b, xs, rfl, .inl (SqL.of s), fun l nl => fin l _ xs nl t h1⟩
    · exact h1.elim⟩
end
end CG
namespace CG
open PySem PySem.Spec PyProof.Rows L2
section
variable {K : PySem.W.Frag}
noncomputable def addF : PyData → PyData → (PyData → Prop) → Prop
  | .int i, .int j, k => k (.int (i + j))
  | .tuple ds, .tuple es, k => ds.length + es.length ≤ 100000 ∧ k (.tuple (ds ++ es))
  | .list ds, .list es, k => ds.length + es.length ≤ 100000 ∧ k (.list (ds ++ es))
  | _, _, _ => False
noncomputable def aAdd (K : PySem.W.Frag) : A2 K := ⟨rAddU K, addF, fun {B a b k} h => by
  unfold addF at h
  split at h
  · exact ⟨_, h, rd_add⟩
  · exact ⟨_, h.2, rd_catT h.1⟩
  · exact ⟨_, h.2, rd_catL h.1⟩
  · exact h.elim⟩
noncomputable def intF (C : Int → Int → Prop) (g : Int → Int → Int) : PyData → PyData → (PyData → Prop) → Prop
  | .int i, .int j, k => C i j ∧ k (.int (g i j))
  | _, _, _ => False
noncomputable def intF0 (g : Int → Int → Int) : PyData → PyData → (PyData → Prop) → Prop
  | .int i, .int j, k => k (.int (g i j))
  | _, _, _ => False
noncomputable def boolF0 (g : Int → Int → Bool) : PyData → PyData → (PyData → Prop) → Prop
  | .int i, .int j, k => k (.bool (g i j))
  | _, _, _ => False
noncomputable def aI (K : PySem.W.Frag) (C : Int → Int → Prop) (g : Int → Int → Int) : A2 K := ⟨rI C fun i j => .int (g i j), intF C g, fun {B a b k} h => by
  unfold intF at h
  split at h
  · exact ⟨_, h.2, rd_I h.1⟩
  · exact h.elim⟩
noncomputable def aI0 (K : PySem.W.Frag) (g : Int → Int → Int) : A2 K := ⟨rI0 fun i j => .int (g i j), intF0 g, fun {B a b k} h => by
  unfold intF0 at h
  split at h
  · exact ⟨_, h, rd_I0⟩
  · exact h.elim⟩
noncomputable def aB0 (K : PySem.W.Frag) (g : Int → Int → Bool) : A2 K := ⟨rI0 fun i j => .bl (g i j), boolF0 g, fun {B a b k} h => by
  unfold boolF0 at h
  split at h
  · exact ⟨_, h, rd_B0⟩
  · exact h.elim⟩
noncomputable abbrev aSub (K : PySem.W.Frag) : A2 K := aI0 K fun i j => i - j
noncomputable abbrev aMod (K : PySem.W.Frag) : A2 K := aI K (fun _ j => 0 < j) fun i j => i % j
noncomputable abbrev aPow (K : PySem.W.Frag) : A2 K := aI K CPow fun i j => i ^ j.toNat
noncomputable abbrev aGt (K : PySem.W.Frag) : A2 K := aB0 K fun i j => decide (j < i)
noncomputable abbrev aGe (K : PySem.W.Frag) : A2 K := aB0 K fun i j => decide (j ≤ i)
noncomputable def mulF : PyData → PyData → (PyData → Prop) → Prop
  | .int i, .int j, k => CMul i j ∧ k (.int (i * j))
  | .tuple ds, .int n, k => (ds ≠ [] ∧ 2 ≤ n ∧ n ≤ 1000 ∧ ds.length ≤ 1000) ∧ k (.tuple (List.replicate n.toNat ds).flatten)
  | .list ds, .int n, k => (0 ≤ n ∧ n ≤ 1000 ∧ ds.length ≤ 1000) ∧ k (.list (List.replicate n.toNat ds).flatten)
  | _, _, _ => False
noncomputable def aMul (K : PySem.W.Frag) : A2 K := ⟨rMulU K, mulF, fun {B a b k} h => by
  unfold mulF at h
  split at h
  · exact ⟨_, h.2, rd_mulI h.1⟩
  · exact ⟨_, h.2, rd_repT h.1.1 h.1.2.1 h.1.2.2.1 h.1.2.2.2⟩
  · exact ⟨_, h.2, rd_repL h.1.1 h.1.2.1 h.1.2.2⟩
  · exact h.elim⟩
noncomputable def Cmp (a b : PyData) : Prop := (a.hasDict = false ∧ SeqAt.shaped a = true) ∧ b.hasDict = false ∧ SeqAt.shaped b = true
noncomputable def eqF : PyData → PyData → (PyData → Prop) → Prop
  | .int i, .int j, k => k (.bool (decide (i = j)))
  | .str i, .str j, k => k (.bool (decide (i = j)))
  | a, b, k => Cmp a b ∧ k (.bool (PyData.eqv a b))
noncomputable def neF : PyData → PyData → (PyData → Prop) → Prop
  | .int i, .int j, k => k (.bool (!decide (i = j)))
  | .str i, .str j, k => k (.bool (!decide (i = j)))
  | a, b, k => Cmp a b ∧ k (.bool (!PyData.eqv a b))
noncomputable def aEq (K : PySem.W.Frag) : A2 K := ⟨rEqU K, eqF, fun {B a b k} h => by
  unfold eqF at h
  split at h
  · exact ⟨_, h, fun H1 x y al hx hy Q q => .inl (rd_eqI H1 x y al hx hy Q q)⟩
  · exact ⟨_, h, fun H1 x y al hx hy Q q => .inl (rd_eqS H1 x y al hx hy Q q)⟩
  · exact ⟨_, h.2, rd_eqD h.1.1.1 h.1.2.1 h.1.1.2 h.1.2.2⟩⟩
noncomputable def aNe (K : PySem.W.Frag) : A2 K := ⟨rNeU K, neF, fun {B a b k} h => by
  unfold neF at h
  split at h
  · exact ⟨_, h, fun H1 x y al hx hy Q q => .inl (rd_neI H1 x y al hx hy Q q)⟩
  · exact ⟨_, h, fun H1 x y al hx hy Q q => .inl (rd_neS H1 x y al hx hy Q q)⟩
  · exact ⟨_, h.2, rd_neD h.1.1.1 h.1.2.1 h.1.1.2 h.1.2.2⟩⟩
noncomputable def isNF : PyData → PyData → (PyData → Prop) → Prop
  | a, .none, k => k (.bool (isNone a))
  | _, _, _ => False
noncomputable def notNF : PyData → PyData → (PyData → Prop) → Prop
  | a, .none, k => k (.bool (!isNone a))
  | _, _, _ => False
noncomputable def aIsN (K : PySem.W.Frag) : A2 K := ⟨rIsNU, isNF, fun {B a b k} h => by
  unfold isNF at h
  split at h
  · exact ⟨_, h, rd_isN⟩
  · exact h.elim⟩
noncomputable def rNotNU : R2 := fun x y H Q => y = .non ∧ Q (.bl (!decide (x = .non))) H
theorem rd_notN {B : Addr → Prop} {d : PyData} : RvD K B rNotNU d .none (.bool (!isNone d)) := fun H1 x y al hx hy Q q => by
  refine ⟨rp_non.mp hy, ?_⟩
  refine (rd_isN (K := K) (B := B) (d := d) H1 x y al hx hy (fun v H' => ∀ b, v = .bl b → Q (.bl (!b)) H') fun v H2 s r b e => ?_).2 _ rfl
  obtain rfl : isNone d = b := by
    have := rp_bl.mp r
    rw [e] at this
    exact (V.bl.inj this).symm
  exact q _ H2 s (rp_bl.mpr rfl)
noncomputable def aNotN (K : PySem.W.Frag) : A2 K := ⟨rNotNU, notNF, fun {B a b k} h => by
  unfold notNF at h
  split at h
  · exact ⟨_, h, rd_notN⟩
  · exact h.elim⟩
/-- a place of a list, tuple -/
noncomputable def atW (ds : List PyData) (i : Int) (k : PyData → Prop) : Prop := ∃ d, atI ds i = some d ∧ k d
noncomputable def ixF : PyData → PyData → (PyData → Prop) → Prop
  | .tuple ds, .int i, k => atW ds i k
  | .list ds, .int i, k => atW ds i k
  | _, _, _ => False
noncomputable def aIx (K : PySem.W.Frag) : A2 K := ⟨rIx K, ixF, fun {B a b k} h => by
  unfold ixF at h
  split at h
  · obtain ⟨d, e, hk⟩ := h
    exact ⟨d, hk, rd_ixT e⟩
  · obtain ⟨d, e, hk⟩ := h
    exact ⟨d, hk, rd_ixL e⟩
  · exact h.elim⟩
noncomputable def negF : PyData → (PyData → Prop) → Prop
  | .int i, k => k (.int (-i))
  | _, _ => False
noncomputable def aNeg (K : PySem.W.Frag) : A1 K := ⟨rU fun i => .int (-i), negF, fun {B a k} h => by
  unfold negF at h
  split at h
  · exact ⟨_, h, ru_neg⟩
  · exact h.elim⟩
noncomputable def lenF : List PyData → (PyData → Prop) → Prop
  | [.tuple ds], k => k (.int ds.length)
  | [.list ds], k => k (.int ds.length)
  | _, _ => False
noncomputable def aLen (K : PySem.W.Frag) : AC K := ⟨rLenU K, lenF, fun {B as k} h => by
  unfold lenF at h
  split at h
  · exact ⟨_, h, rc_lenT⟩
  · exact ⟨_, h, rc_lenL⟩
  · exact h.elim⟩
noncomputable def reprF : List PyData → (PyData → Prop) → Prop
  | [d], k => Shx d ∧ k (.str d.shown)
  | _, _ => False
noncomputable def aRepr (K : PySem.W.Frag) : AC K := ⟨rRepr K, reprF, fun {B as k} h => by
  unfold reprF at h
  split at h
  · exact ⟨_, h.2, rc_reprX h.1⟩
  · exact h.elim⟩
noncomputable def twoF (g : Int → Int → Int) : List PyData → (PyData → Prop) → Prop
  | [.int i, .int j], k => k (.int (g i j))
  | _, _ => False
noncomputable def aMin (K : PySem.W.Frag) : AC K := ⟨rMinU, twoF fun i j => if j < i then j else i, fun {B as k} h => by
  unfold twoF at h
  split at h
  · exact ⟨_, h, rc_min⟩
  · exact h.elim⟩
noncomputable def aMax (K : PySem.W.Frag) : AC K := ⟨rMaxU, twoF fun i j => if j > i then j else i, fun {B as k} h => by
  unfold twoF at h
  split at h
  · exact ⟨_, h, rc_max⟩
  · exact h.elim⟩
noncomputable def intBF : List PyData → (PyData → Prop) → Prop
  | [.bool b], k => k (.int (if b then 1 else 0))
  | _, _ => False
noncomputable def aInt (K : PySem.W.Frag) : AC K := ⟨rIntU, intBF, fun {B as k} h => by
  unfold intBF at h
  split at h
  · exact ⟨_, h, rc_intB⟩
  · exact h.elim⟩
noncomputable def tupF : List PyData → (PyData → Prop) → Prop
  | [.tuple ds], k => k (.tuple ds)
  | [.list ds], k => k (.tuple ds)
  | _, _ => False
noncomputable def aTup (K : PySem.W.Frag) : AC K := ⟨rTupU K, tupF, fun {B as k} h => by
  unfold tupF at h
  split at h
  · exact ⟨_, h, rc_tupT⟩
  · exact ⟨_, h, rc_tupL⟩
  · exact h.elim⟩
noncomputable def slF : PyData → Option Int → Option Int → (PyData → Prop) → Prop
  | .tuple ds, lo, hi, k => k (.tuple (cutD ds lo hi))
  | .list ds, lo, hi, k => k (.list (cutD ds lo hi))
  | _, _, _, _ => False
noncomputable def AE.sl (a : AE K) (lo hi : AO K) : AE K := ⟨tSl (rSlU K) a.te lo.tO hi.tO, fun e t k => a.wp e t fun d t1 => lo.wp e t1 fun l t2 => hi.wp e t2 fun u t3 => slF d l u fun z => k z t3, fun {m B0 B e σ H t k} r h Q q =>
  a.ok r h _ fun v d H1 t1 x1 k1 h1 r1 => lo.ok (r.up x1 k1) h1 _ fun l H2 t2 x2 k2 h2 => hi.ok ((r.up x1 k1).up x2 k2) h2 _ fun u H3 t3 x3 k3 h3 => by
    have s1 := r.up x1 k1
    have s2 := s1.up x2 k2
    have s3 := s2.up x3 k3
    have r3 := (r1.up (s1.wd x2)).up (s2.wd x3)
    have x13 := x1.trans (x2.trans x3)
    unfold slF at h3
    split at h3
    · obtain ⟨a, xs, rfl, na, s, t⟩ := rp_tup.mp r3
      refine .inr ⟨a, xs, rfl, s, fun f => ?_, fun _ p np => ?_⟩
      · rw [← t.length] at f
        rw [cutD_full f.1 f.2] at h3
        exact q _ _ H3 t3 x13 k3 h3 r3
      · exact q (.ref p) _ _ t3 (x13.trans (m.xs k3 (same_new np))) (m.same k3 (same_new np)) h3 (rp_tup.mpr ⟨p, _, rfl, .inl (s3.al.new np), SqT.of upd_same, (RpA.cut t).up (Xt.of s3.al (same_new np))⟩)
    · obtain ⟨a, xs, rfl, na, s, t⟩ := rp_lst.mp r3
      refine .inl ⟨a, xs, rfl, SqL.of s, fun p np => ?_⟩
      exact q (.ref p) _ _ t3 (x13.trans (m.xs k3 (same_new np))) (m.same k3 (same_new np)) h3 (rp_lst.mpr ⟨p, _, rfl, s3.al.new np, upd_same, (RpA.cut t).up (Xt.of s3.al (same_new np))⟩)
    · exact h3.elim⟩
noncomputable def viewE (e : En) : En := e.map fun x => match x with
  | .own ds => .dat (.list ds)
  | x => x
theorem Rep.view {m : Dck} {B0 B : Addr → Prop} {e : En} {σ : L2.St} {H : Hp} {t : Tq} (r : Rep K m B0 B e σ H t) : Rep K m m.pl m.pl (viewE e) σ H t := by
  refine ⟨m.al r.ok, fun _ h => h, fun _ h => h, r.ok, by unfold viewE; rw [List.length_map]; exact r.ln, fun i => ?_, fun i j p ds es h1 => ?_⟩
  · have s := r.sl i
    have e1 : (viewE e)[i]? = (e[i]?).map (fun x => match x with | .own ds => .dat (.list ds) | x => x) := by unfold viewE; rw [List.getElem?_map]
    rw [e1]
    revert s
    generalize e[i]? = y
    generalize σ[i]? = z
    intro h
    match y, h with
    | some (.dat d), h =>
      obtain ⟨v, rfl, r2⟩ := h
      exact ⟨v, rfl, Rp.less r.pb _ _ r2⟩
    | some (.own ds), h =>
      obtain ⟨p, vs, rfl, b, b0, np, hp, r2⟩ := h
      exact ⟨.ref p, rfl, rp_lst.mpr ⟨p, vs, rfl, np, hp, RpA.less r.pb _ _ r2⟩⟩
    | some (.deck M), h => exact h
    | some (.ptr _ M), h => exact h
    | some (.fn _ _ _ _ _), h => exact ⟨h.1, Rp.less r.pb _ _ h.2⟩
    | some .un, _ => trivial
    | none, _ => trivial
  · exfalso
    unfold viewE at h1
    rw [List.getElem?_map] at h1
    cases q : e[i]? with
    | none => rw [q] at h1; cases h1
    | some x => rw [q] at h1; cases x <;> cases h1
noncomputable def flat : PyData → Bool
  | .none => true
  | .bool _ => true
  | .int _ => true
  | .str _ => true
  | _ => false
theorem rp_flat {B B' : Addr → Prop} {H : Hp} {d : PyData} {v : V} (h : flat d = true) (r : Rp K B H d v) : Rp K B' H d v := by
  cases d with
  | none => exact rp_non.mpr (rp_non.mp r)
  | bool b => exact rp_bl.mpr (rp_bl.mp r)
  | int i => exact rp_int.mpr (rp_int.mp r)
  | str s => exact rp_str.mpr (rp_str.mp r)
  | _ => cases h
/-- a reading of flat data, lists of one's own among what is read -/
noncomputable def AE.view (a : AE K) : AE K := ⟨a.te, fun e t k => a.wp (viewE e) t fun d t1 => flat d = true ∧ k d t1, fun {m B0 B e σ H t k} r h Q q =>
  a.ok r.view h _ fun v d H1 t1 x1 k1 h1 r1 => q v d H1 t1 x1 k1 h1.2 (rp_flat h1.1 r1)⟩
noncomputable def AT.view (a : AT K) : AT K := ⟨a.tt, fun e t k => a.wp (viewE e) t k, fun {m B0 B e σ H t k} r h Q q => a.ok r.view h _ q⟩
noncomputable def owS : Option Sl → (List PyData → Prop) → Prop
  | some (.own ds), k => k ds
  | _, _ => False
theorem Rep.own {m : Dck} {B0 B : Addr → Prop} {e : En} {σ : L2.St} {H : Hp} {t : Tq} {i : Nat} {k : List PyData → Prop} (r : Rep K m B0 B e σ H t) (h : owS e[i]? k) :
    ∃ ds p vs, e[i]? = some (.own ds) ∧ σ[i]? = some (some (.ref p)) ∧ B p ∧ ¬ B0 p ∧ ¬ m.pl p ∧ H p = some (.lst vs) ∧ RpA K B H ds vs ∧ k ds := by
  have s := r.sl i
  cases q : e[i]? with
  | none => rw [q] at h; exact h.elim
  | some x =>
    rw [q] at h s
    cases x with
    | own ds =>
      obtain ⟨p, vs, e1, b, b0, np, hp, r1⟩ := s
      exact ⟨ds, p, vs, rfl, e1, b, b0, np, hp, r1, h⟩
    | un => exact h.elim
    | deck ds => exact h.elim
    | ptr _ _ => exact h.elim
    | fn _ _ _ _ _ => exact h.elim
    | dat M => exact h.elim
/-- x[b], x a list of one's own -/
noncomputable def AE.ownIx (i : Nat) (b : AE K) : AE K := ⟨tOp (rIx K) (tVar i) b.te, fun e t k => owS e[i]? fun ds => b.wp e t fun y t1 => unI y fun j => atW ds j fun d => k d t1, fun {m B0 B e σ H t k} r h Q q => by
  obtain ⟨ds, p, vs, e1, e2, _, _, np, hp, ra, h⟩ := r.own h
  refine ⟨.ref p, e2, b.ok r h _ fun w y H2 t2 x2 k2 h2 r2 => ?_⟩
  obtain ⟨j, rfl, d, ed, hk⟩ := unI_of h2
  obtain ⟨z, g, rz⟩ := at_data ed (ra.up (r.wd x2))
  exact .inl ⟨p, vs, j, z, rfl, rp_int.mp r2, SqL.of (x2.kp _ _ np hp), g, q z d H2 t2 x2 k2 hk rz⟩⟩
/-- x[lo:hi] -/
noncomputable def AE.ownSl (i : Nat) (lo hi : AO K) : AE K := ⟨tSl (rSlU K) (tVar i) lo.tO hi.tO, fun e t k => owS e[i]? fun ds => lo.wp e t fun l t2 => hi.wp e t2 fun u t3 => k (.list (cutD ds l u)) t3, fun {m B0 B e σ H t k} r h Q q => by
  obtain ⟨ds, p, vs, e1, e2, _, _, np, hp, ra, h⟩ := r.own h
  refine ⟨.ref p, e2, lo.ok r h _ fun l H2 t2 x2 k2 h2 => hi.ok (r.up x2 k2) h2 _ fun u H3 t3 x3 k3 h3 => .inl ⟨p, vs, rfl, SqL.of (x3.kp _ _ np (x2.kp _ _ np hp)), fun p' np' => ?_⟩⟩
  have s2 := r.up x2 k2
  have s3 := s2.up x3 k3
  have s := same_new (o := .lst (cutV vs l u)) np'
  exact q _ _ _ t3 (x2.trans (x3.trans (m.xs k3 s))) (m.same k3 s) h3 (rp_lst.mpr ⟨p', _, rfl, s3.al.new np', upd_same, (RpA.cut ((ra.up (r.wd x2)).up (s2.wd x3))).up (Xt.of s3.al s)⟩)⟩
structure Kn where
  nx : En → Tq → Prop
  rt : PK
  bk : En → Tq → Prop := fun _ _ => False
  ct : En → Tq → Prop := fun _ _ => False
/-- from the def's start (B0, H0) and from the loop's (B1, H1) to here -/
structure Fr (m : Dck) (B0 : Addr → Prop) (H0 : Hp) (B1 : Addr → Prop) (H1 : Hp) (B : Addr → Prop) (H : Hp) : Prop where
  g0 : Gw B0 B H0
  x0 : Xt m.pl H0 H
  f1 : ∀ a, B a → B1 a ∨ H1 a = none
  x1 : Xt B1 H1 H
structure Cn (K : PySem.W.Frag) (m : Dck) (B0 : Addr → Prop) (H0 : Hp) (B1 : Addr → Prop) (H1 : Hp) (k : Kn) (Dd : Ends) : Prop where
  nx : ∀ {B e σ H t}, Fr m B0 H0 B1 H1 B H → Rep K m B0 B e σ H t → k.nx e t → Dd.nx σ H
  bk : ∀ {B e σ H t}, Fr m B0 H0 B1 H1 B H → Rep K m B0 B e σ H t → k.bk e t → Dd.bk σ H
  ct : ∀ {B e σ H t}, Fr m B0 H0 B1 H1 B H → Rep K m B0 B e σ H t → k.ct e t → Dd.ct σ H
  rt : ∀ {v d H t}, Xt m.pl H0 H → m.ok H t → k.rt d t → Rp K B0 H d v → Dd.rt v H
structure AS (K : PySem.W.Frag) where
  ts : TS
  wp : En → Tq → Kn → Prop
  ok : ∀ {m : Dck} {B0 B1 : Addr → Prop} {H0 H1 : Hp} {Dd : Ends} {k : Kn}, Cn K m B0 H0 B1 H1 k Dd → ∀ {B : Addr → Prop} {e : En} {σ : L2.St} {H : Hp} {t : Tq}, Fr m B0 H0 B1 H1 B H → Rep K m B0 B e σ H t → wp e t k → ts Dd σ H
end
section
variable {K : PySem.W.Frag} {m : Dck} {B0 B1 B B' : Addr → Prop} {H0 H1 H H2 : Hp} {e : En} {σ : L2.St} {t t' : Tq} {L p : Addr} {i : Nat}
theorem Gw.refl : Gw B B H := ⟨fun _ h => h, fun _ h => .inl h⟩
theorem Fr.step (f : Fr m B0 H0 B1 H1 B H) (r : Rep K m B0 B e σ H t) (x : Xt m.pl H H2) : Fr m B0 H0 B1 H1 B H2 := by
  refine ⟨f.g0, f.x0.trans x, f.f1, ⟨fun a o nb z => x.kp a o (fun w => (f.f1 a (r.pb a w)).elim nb fun u => by rw [u] at z; cases z) (f.x1.kp a o nb z), fun a h => ?_⟩⟩
  by_cases w : m.pl a
  · exact x.al a w
  · cases q : H a with
    | none => exact absurd q (f.x1.al a h).ne
    | some o => have zz := f.x1.al a h; rw [q] at zz; rw [x.kp a o w q]; exact zz
theorem Fr.put (f : Fr m B0 H0 B1 H1 B H) (r : Rep K m B0 B e σ H t) (b : B p) (nb0 : ¬ B0 p) (np : ¬ m.pl p) {o : List V} : Fr m B0 H0 B1 H1 B (upd H p (.lst o)) := by
  have h0 : H0 p = none := (f.g0.fr p b).elim (fun z => absurd z nb0) id
  refine ⟨f.g0, ⟨fun a u nb z => ?_, fun a h => ?_⟩, f.f1, ⟨fun a u nb z => ?_, fun a h => ?_⟩⟩
  · rw [upd_ne (ne_of_none z h0)]
    exact f.x0.kp a u nb z
  · rw [upd_ne (fun w : a = p => np (w ▸ h))]
    exact f.x0.al a h
  · have : a ≠ p := fun w => (f.f1 p b).elim (fun u => nb (w ▸ u)) fun u => by rw [w, u] at z; cases z
    rw [upd_ne this]
    exact f.x1.kp a u nb z
  · by_cases w : a = p
    · rw [w, upd_same]; first | exact trivial | simp
    · rw [upd_ne w]
      exact f.x1.al a h
theorem Fr.new (f : Fr m B0 H0 B1 H1 B H) (r : Rep K m B0 B e σ H t) (n : H L = none) (x : Xt m.pl H H2) : Fr m B0 H0 B1 H1 (Bp B L) H2 := by
  have s := f.step r x
  have h0 : H0 L = none := by
    cases q : H0 L with
    | none => rfl
    | some o =>
      by_cases z : m.pl L
      · exact absurd n (f.x0.al L z).ne
      · rw [f.x0.kp L o z q] at n
        cases n
  have h1 : H1 L = none := by
    cases q : H1 L with
    | none => rfl
    | some o =>
      by_cases z : B1 L
      · exact absurd n (f.x1.al L z).ne
      · rw [f.x1.kp L o z q] at n
        cases n
  exact ⟨⟨fun a h => .inl (s.g0.up a h), fun a h => h.elim (s.g0.fr a) fun z => .inr (z ▸ h0)⟩, s.x0, fun a h => h.elim (s.f1 a) fun z => .inr (z ▸ h1), s.x1⟩
/-- the loop's frame ends -/
theorem Fr.comp (f : Fr m B0 H0 B1 H1 B H) (g : Fr m B0 H0 B H B' H2) : Fr m B0 H0 B1 H1 B' H2 := by
  refine ⟨g.g0, g.x0, fun a h => ?_, ⟨fun a o nb z => ?_, fun a h => ?_⟩⟩
  · rcases g.f1 a h with z | z
    · exact f.f1 a z
    · cases q : H1 a with
      | none => exact .inr rfl
      | some o =>
        by_cases w : B1 a
        · exact .inl w
        · rw [f.x1.kp a o w q] at z
          cases z
  · exact g.x1.kp a o (fun w => (f.f1 a w).elim nb fun u => by rw [u] at z; cases z) (f.x1.kp a o nb z)
  · by_cases w : B a
    · exact g.x1.al a w
    · cases q : H a with
      | none => exact absurd q (f.x1.al a h).ne
      | some o => have zz := f.x1.al a h; rw [q] at zz; rw [g.x1.kp a o w q]; exact zz
/-- the frame at a loop's start -/
theorem Fr.here (f : Fr m B0 H0 B1 H1 B H) (r : Rep K m B0 B e σ H t) : Fr m B0 H0 B H B H := ⟨f.g0, f.x0, fun _ h => .inl h, Xt.refl r.al⟩
/-- what is read behind the loop's start -/
theorem Fr.sq {J : It} {ds : List PyData} (f : Fr m B0 H0 B1 H1 B H) (r : Rep K m B0 B e σ H t) (s : Sq K J B1 H1 ds) : (∀ i, i < ds.length → J.go i H) ∧ J.stop ds.length H ∧
    ∀ (i : Nat) d x H3, ds[i]? = some d → J.yld i H x H3 → Same H H3 ∧ Rp K B H3 d x := by
  have g : Gw B1 (fun a => B1 a ∨ B a) H1 := ⟨fun _ h => .inl h, fun a h => h.elim .inl (f.f1 a)⟩
  have x : Xt (fun a => B1 a ∨ B a) H1 H := ⟨fun a o nb z => f.x1.kp a o (fun w => nb (.inl w)) z, fun a h => h.elim (f.x1.al a) (r.al a)⟩
  refine ⟨fun i hi => s.go i H _ hi g x, s.st H _ g x, fun i d y H3 hd hy => ?_⟩
  obtain ⟨s3, ry⟩ := s.yl i d y H H3 _ hd g x hy
  exact ⟨s3, Rp.less (fun a h => .inr h) _ _ ry⟩
theorem Fr.less (f : Fr m B0 H0 B1 H1 B H) (h : ∀ a, B' a → B a) (h0 : ∀ a, B0 a → B' a) : Fr m B0 H0 B1 H1 B' H :=
  ⟨⟨h0, fun a z => f.g0.fr a (h a z)⟩, f.x0, fun a z => f.f1 a (h a z), f.x1⟩
/-- a list of one's own is put into a slot -/
theorem Rep.setOwn {ds : List PyData} {vs : List V} (r : Rep K m B0 B e σ H t) (n : H L = none) (x : Xt m.pl H H2) (k : m.ok H2 t') (hL : H2 L = some (.lst vs)) (ra : RpA K (Bp B L) H2 ds vs) :
    Rep K m B0 (Bp B L) (e.set i (.own ds)) (σ.set i (some (.ref L))) H2 t' := by
  have r2 := r.under n x k (by rw [hL]; first | exact trivial | simp)
  have nB : ¬ B L := r.al.new n
  have nP : ¬ m.pl L := fun z => nB (r.pb L z)
  have alone : ∀ (j : Nat) (ds : List PyData), e[j]? = some (.own ds) → σ[j]? ≠ some (some (.ref L)) := fun j es h z => by
    have s := r.sl j
    rw [h] at s
    obtain ⟨p, vs, e1, b, _⟩ := s
    rw [e1] at z
    cases z
    exact nB b
  have self : ∀ (j : Nat), i = j → ∀ {x : Sl}, (e.set i x)[j]? = some x ∨ (e.set i x)[j]? = none := fun j z x => by
    subst z
    by_cases hl : i < e.length
    · exact .inl (List.getElem?_set_self hl)
    · exact .inr (List.getElem?_eq_none (by rw [List.length_set]; omega))
  refine ⟨r2.al, r2.pb, r2.b0, k, by rw [List.length_set, List.length_set]; exact r2.ln, fun j => ?_, fun a b p ds1 es h1 h2 h3 h4 => ?_⟩
  · by_cases z : i = j
    · subst z
      by_cases hl : i < e.length
      · rw [List.getElem?_set_self hl, List.getElem?_set_self (by rw [← r.ln]; exact hl)]
        exact ⟨L, vs, rfl, .inr rfl, fun z => nB (r.b0 L z), nP, hL, ra⟩
      · rw [List.getElem?_eq_none (by rw [List.length_set]; omega)]
        trivial
    · rw [List.getElem?_set_ne z, List.getElem?_set_ne z]
      exact r2.sl j
  · have hit : ∀ (c : Nat) (q : Addr), i = c → (σ.set i (some (.ref L)))[c]? = some (some (.ref q)) → q = L := fun c q z w => by
      subst z
      by_cases hl : i < σ.length
      · rw [List.getElem?_set_self hl] at w
        cases w
        rfl
      · rw [List.getElem?_eq_none (by rw [List.length_set]; omega)] at w
        cases w
    by_cases za : i = a
    · by_cases zb : i = b
      · exact za.symm.trans zb
      · have := hit a p za h3
        subst this
        rw [List.getElem?_set_ne zb] at h2 h4
        exact absurd h4 (alone b es h2)
    · by_cases zb : i = b
      · have := hit b p zb h4
        subst this
        rw [List.getElem?_set_ne za] at h1 h3
        exact absurd h3 (alone a ds1 h1)
      · rw [List.getElem?_set_ne za] at h1 h3
        rw [List.getElem?_set_ne zb] at h2 h4
        exact r2.ow a b p ds1 es h1 h2 h3 h4
/-- a list of one's own is written -/
theorem Rep.put {ds es : List PyData} {ws : List V} (r : Rep K m B0 B e σ H t) (he : e[i]? = some (.own ds)) (hs : σ[i]? = some (some (.ref p))) (b : B p) (np : ¬ m.pl p) (ra : RpA K B H es ws) :
    Rep K m B0 B (e.set i (.own es)) σ (upd H p (.lst ws)) t := by
  have al : Al B (upd H p (.lst ws)) := fun a h => by
    by_cases w : a = p
    · rw [w, upd_same]; first | exact trivial | simp
    · rw [upd_ne w]
      exact r.al a h
  have x : Xt B H (upd H p (.lst ws)) := ⟨fun a o nb z => by
    rw [upd_ne (fun w : a = p => nb (w ▸ b))]
    exact z, al⟩
  have hl : i < e.length := (List.getElem?_eq_some_iff.mp he).1
  have b0 : ¬ B0 p := by
    have s := r.sl i
    rw [he, hs] at s
    obtain ⟨q, vs, e1, _, h, _⟩ := s
    cases e1
    exact h
  refine ⟨al, r.pb, r.b0, m.putV r.ok np (r.al p b), by rw [List.length_set]; exact r.ln, fun j => ?_, fun a c q ds1 es1 h1 h2 h3 h4 => ?_⟩
  · by_cases z : i = j
    · subst z
      rw [List.getElem?_set_self hl, hs]
      exact ⟨p, ws, rfl, b, b0, np, upd_same, ra.up x⟩
    · rw [List.getElem?_set_ne z]
      have s := r.sl j
      cases q : e[j]? with
      | none => trivial
      | some y =>
        rw [q] at s
        cases y with
        | un => trivial
        | deck M => exact s
        | ptr _ _ => exact s
        | fn _ _ _ _ _ => exact ⟨⟨s.1.1, x.kp _ _ (fun b => s.1.2.2 (s.1.2.1 ▸ r.al _ b)) s.1.2.1, s.1.2.2⟩, s.2.up x⟩
        | dat d =>
          obtain ⟨v, e1, r1⟩ := s
          exact ⟨v, e1, r1.up x⟩
        | own fs =>
          obtain ⟨p2, vs2, e1, b2, b02, np2, hp2, r2⟩ := s
          have ne : p2 ≠ p := fun w => by
            subst w
            exact z (r.ow i j p2 ds fs he q hs e1)
          exact ⟨p2, vs2, e1, b2, b02, np2, by rw [upd_ne ne]; exact hp2, r2.up x⟩
  · have own_of : ∀ (c : Nat) (fs : List PyData), (e.set i (.own es))[c]? = some (.own fs) → ∃ gs, e[c]? = some (.own gs) := fun c fs h => by
      by_cases z : i = c
      · subst z
        exact ⟨ds, he⟩
      · rw [List.getElem?_set_ne z] at h
        exact ⟨fs, h⟩
    obtain ⟨g1, k1⟩ := own_of a ds1 h1
    obtain ⟨g2, k2⟩ := own_of c es1 h2
    exact r.ow a c q g1 g2 k1 k2 h3 h4
/-- a list of one's own becomes data -/
theorem Rep.frz {ds : List PyData} (r : Rep K m B0 B e σ H t) (he : e[i]? = some (.own ds)) : ∃ B', (∀ a, B' a → B a) ∧ (∀ a, B0 a → B' a) ∧ Rep K m B0 B' (e.set i (.dat (.list ds))) σ H t := by
  have s := r.sl i
  rw [he] at s
  obtain ⟨p, vs, hs, b, b0, np, hp, ra⟩ := s
  have hl : i < e.length := (List.getElem?_eq_some_iff.mp he).1
  have ls : ∀ a, (B a ∧ a ≠ p) → B a := fun a h => h.1
  refine ⟨fun a => B a ∧ a ≠ p, ls, fun a h => ⟨r.b0 a h, fun w => b0 (w ▸ h)⟩, fun a h => r.al a h.1, fun a h => ⟨r.pb a h, fun w => np (w ▸ h)⟩, fun a h => ⟨r.b0 a h, fun w => b0 (w ▸ h)⟩, r.ok, by rw [List.length_set]; exact r.ln, fun j => ?_, fun a c q ds1 es1 h1 h2 h3 h4 => ?_⟩
  · by_cases z : i = j
    · subst z
      rw [List.getElem?_set_self hl, hs]
      exact ⟨.ref p, rfl, rp_lst.mpr ⟨p, vs, rfl, fun w => w.2 rfl, hp, RpA.less ls _ _ ra⟩⟩
    · rw [List.getElem?_set_ne z]
      have s := r.sl j
      cases q : e[j]? with
      | none => trivial
      | some y =>
        rw [q] at s
        cases y with
        | un => trivial
        | deck M => exact s
        | ptr _ _ => exact s
        | fn _ _ _ _ _ => exact ⟨s.1, Rp.less ls _ _ s.2⟩
        | dat d =>
          obtain ⟨v, e1, r1⟩ := s
          exact ⟨v, e1, Rp.less ls _ _ r1⟩
        | own fs =>
          obtain ⟨p2, vs2, e1, b2, b02, np2, hp2, r2⟩ := s
          have ne : p2 ≠ p := fun w => by
            subst w
            exact z (r.ow i j p2 ds fs he q hs e1)
          exact ⟨p2, vs2, e1, ⟨b2, ne⟩, b02, np2, hp2, RpA.less ls _ _ r2⟩
  · have na : i ≠ a := fun z => by subst z; rw [List.getElem?_set_self hl] at h1; cases h1
    have nc : i ≠ c := fun z => by subst z; rw [List.getElem?_set_self hl] at h2; cases h2
    rw [List.getElem?_set_ne na] at h1
    rw [List.getElem?_set_ne nc] at h2
    exact r.ow a c q ds1 es1 h1 h2 h3 h4
end
end CG
namespace CG
open PySem PySem.Spec PyProof.Rows L2
section
variable {K : PySem.W.Frag}
theorem RpA.set {B : Addr → Prop} {H : Hp} {d : PyData} {v : V} (h : Rp K B H d v) : ∀ {ds : List PyData} {xs : List V} {j : Nat}, RpA K B H ds xs → RpA K B H (ds.set j d) (xs.set j v)
  | [], xs, j, r => by rw [rpa_nil.mp r]; exact .nil
  | c :: ds, xs, 0, r => by
    obtain ⟨y, w, rfl, h1, h2⟩ := rpa_cons.mp r
    exact .cons h h2
  | c :: ds, xs, j + 1, r => by
    obtain ⟨y, w, rfl, h1, h2⟩ := rpa_cons.mp r
    exact .cons h1 (RpA.set h h2)
noncomputable def AS.nop (K : PySem.W.Frag) : AS K := ⟨tNext, fun e t k => k.nx e t, fun {m B0 B1 H0 H1 Dd k} c {B e σ H t} f r h => c.nx f r h⟩
noncomputable def AS.seq (a b : AS K) : AS K := ⟨tSeq a.ts b.ts, fun e t k => a.wp e t { k with nx := fun e' t' => b.wp e' t' k }, fun {m B0 B1 H0 H1 Dd k} c {B e σ H t} f r h =>
  a.ok (Dd := { Dd with nx := b.ts Dd }) (k := { k with nx := fun e' t' => b.wp e' t' k }) ⟨fun f' r' h' => b.ok c f' r' h', c.bk, c.ct, c.rt⟩ f r h⟩
noncomputable def AS.set (i : Nat) (a : AE K) : AS K := ⟨tAsg a.te (gName i), fun e t k => a.wp e t fun d t1 => k.nx (e.set i (.dat d)) t1, fun {m B0 B1 H0 H1 Dd k} c {B e σ H t} f r h =>
  a.ok r h _ fun v d H2 t2 x2 k2 h2 r2 => c.nx (f.step r x2) ((r.up x2 k2).set r2) h2⟩
noncomputable def AS.asg (a : AE K) (g : AG K) : AS K := ⟨tAsg a.te g.tg, fun e t k => a.wp e t fun d t1 => g.wp d e fun e' => k.nx e' t1, fun {m B0 B1 H0 H1 Dd k} c {B e σ H t} f r h =>
  a.ok r h _ fun v d H2 t2 x2 k2 h2 r2 => g.ok (r.up x2 k2) r2 h2 _ fun e' σ' hk r' _ _ => c.nx (f.step r x2) r' hk⟩
noncomputable def AS.drop (a : AE K) : AS K := ⟨tDrop a.te, fun e t k => a.wp e t fun _ t1 => k.nx e t1, fun {m B0 B1 H0 H1 Dd k} c {B e σ H t} f r h =>
  a.ok r h _ fun v d H2 t2 x2 k2 h2 r2 => c.nx (f.step r x2) (r.up x2 k2) h2⟩
noncomputable def un2 : List PyData → (PyData → PyData → Prop) → Prop
  | [a, b], k => k a b
  | _, _ => False
noncomputable def un3 : List PyData → (PyData → PyData → PyData → Prop) → Prop
  | [a, b, c], k => k a b c
  | _, _ => False
/-- x, y = a, b -/
noncomputable def AS.par (i j : Nat) (a : AA K) : AS K := ⟨tPar i j a.ta, fun e t k => a.wp e t fun ds t1 => un2 ds fun x y => k.nx ((e.set i (.dat x)).set j (.dat y)) t1, fun {m B0 B1 H0 H1 Dd k} c {B e σ H t} f r h =>
  a.ok r h _ fun vs ds H2 t2 x2 k2 h2 r2 => by
    unfold un2 at h2
    split at h2
    · obtain ⟨v, w, rfl, q1, q2⟩ := rpa_cons.mp r2
      obtain ⟨v2, w2, rfl, q3, q4⟩ := rpa_cons.mp q2
      obtain rfl := rpa_nil.mp q4
      exact ⟨v, v2, rfl, c.nx (f.step r x2) (((r.up x2 k2).set q1).set q3) h2⟩
    · exact h2.elim⟩
noncomputable def AS.ret (a : AE K) : AS K := ⟨tRet a.te, fun e t k => a.wp e t k.rt, fun {m B0 B1 H0 H1 Dd k} c {B e σ H t} f r h =>
  a.ok r h _ fun v d H2 t2 x2 k2 h2 r2 => c.rt (f.x0.trans x2) k2 h2 (Rp.less f.g0.up _ _ r2)⟩
noncomputable def AS.ifS (c : AT K) (a b : AS K) : AS K := ⟨tIfS c.tt a.ts b.ts, fun e t k => c.wp e t fun z t1 => if z = true then a.wp e t1 k else b.wp e t1 k, fun {m B0 B1 H0 H1 Dd k} cn {B e σ H t} f r h =>
  c.ok r h _ fun z H2 t2 x2 k2 h2 => by
    cases z with
    | true =>
      rw [if_pos rfl] at h2 ⊢
      exact a.ok cn (f.step r x2) (r.up x2 k2) h2
    | false =>
      rw [if_neg (by decide)] at h2 ⊢
      exact b.ok cn (f.step r x2) (r.up x2 k2) h2⟩
/-- for g in it: s -/
noncomputable def AS.for (it : AI K) (g : AG K) (s : AS K) : AS K := ⟨tFor it.ti g.tg s.ts, fun e t k => it.wp e t fun ds t1 => ∃ I : Nat → En → Tq → Prop, I 0 e t1 ∧
    (∀ (i : Nat) d e' t', ds[i]? = some d → I i e' t' → g.wp d e' fun e2 => s.wp e2 t' { k with nx := I (i + 1), ct := I (i + 1), bk := k.nx }) ∧ ∀ e' t', I ds.length e' t' → k.nx e' t', fun {m B0 B1 H0 H1 Dd k} c {B e σ H t} f r h =>
  it.ok r h _ fun J ds H2 t2 x2 k2 h2 sq => by
    obtain ⟨I, i0, is, ie⟩ := h2
    have f2 := f.step r x2
    have r2 := r.up x2 k2
    have fh := f2.here r2
    refine ⟨fun i mm σ' H' => mm = ds.length - i ∧ i ≤ ds.length ∧ ∃ B' e' t', Fr m B0 H0 B H2 B' H' ∧ Rep K m B0 B' e' σ' H' t' ∧ I i e' t', ⟨ds.length, by simp, Nat.zero_le _, B, e, t2, fh, r2, i0⟩, ?_⟩
    rintro i mm σ' H' ⟨rfl, hi, B', e', t', f', r', hI⟩
    obtain ⟨sg, ss, sy⟩ := f'.sq r' sq
    by_cases hlt : i < ds.length
    · refine .inr ⟨sg i hlt, fun σ3 H3 => ∃ B' e' t', Fr m B0 H0 B H2 B' H3 ∧ Rep K m B0 B' e' σ3 H3 t' ∧ I (i + 1) e' t', fun σ3 H3 p => ⟨ds.length - (i + 1), by omega, rfl, hlt, p⟩, fun x H3 y => ?_⟩
      obtain ⟨s3, rx⟩ := sy i ds[i] x H3 (List.getElem?_eq_getElem hlt) y
      have r3 := r'.same s3
      have f3 := f'.step r' (m.xs r'.ok s3)
      refine g.ok r3 rx (is i ds[i] e' t' (List.getElem?_eq_getElem hlt) hI) _ fun e4 σ4 hk r4 _ _ => ?_
      refine s.ok (B1 := B) (H1 := H2) (Dd := { Dd with nx := fun σ3 H3 => ∃ B' e' t', Fr m B0 H0 B H2 B' H3 ∧ Rep K m B0 B' e' σ3 H3 t' ∧ I (i + 1) e' t', ct := fun σ3 H3 => ∃ B' e' t', Fr m B0 H0 B H2 B' H3 ∧ Rep K m B0 B' e' σ3 H3 t' ∧ I (i + 1) e' t', bk := Dd.nx }) (k := { k with nx := I (i + 1), ct := I (i + 1), bk := k.nx }) ⟨fun f5 r5 h5 => ⟨_, _, _, f5, r5, h5⟩, fun f5 r5 h5 => c.nx (f2.comp f5) r5 h5, fun f5 r5 h5 => ⟨_, _, _, f5, r5, h5⟩, c.rt⟩ f3 r4 hk
    · have e1 : i = ds.length := by omega
      subst e1
      exact .inl ⟨ss, c.nx (f2.comp f') r' (ie e' t' hI)⟩⟩
noncomputable def AS.setOwn (i : Nat) (a : AF K) : AS K := ⟨tAsg a.te (gName i), fun e t k => a.wp e t fun ds t1 => k.nx (e.set i (.own ds)) t1, fun {m B0 B1 H0 H1 Dd k} c {B e σ H t} f r h =>
  a.ok r h _ fun L ds vs H2 t2 nL x2 k2 h2 hL ra => c.nx (f.new r nL x2) (r.setOwn nL x2 k2 hL ra) h2⟩
/-- x, y = [..], b -/
noncomputable def un1 : List PyData → (PyData → Prop) → Prop
  | [a], k => k a
  | _, _ => False
/-- x.append(a) -/
noncomputable def AS.append (i : Nat) (a : AA K) : AS K := ⟨tDrop (tBM K "list" rAppend (tVar i) a.ta), fun e t k => owS e[i]? fun ds => ds.length < 100000 ∧ a.wp e t fun es t1 => un1 es fun d => k.nx (e.set i (.own (ds ++ [d]))) t1, fun {m B0 B1 H0 H1 Dd k} c {B e σ H t} f r h => by
  obtain ⟨ds, p, vs, e1, e2, b, b0, np, hp, ra, hl, h⟩ := r.own h
  refine ⟨.ref p, e2, .inl ⟨rfl, _, SqL.of hp⟩, a.ok r h _ fun ws es H2 t2 x2 k2 h2 r2 => ?_⟩
  unfold un1 at h2
  split at h2
  · obtain ⟨v, w, rfl, q1, q2⟩ := rpa_cons.mp r2
    obtain rfl := rpa_nil.mp q2
    have s2 := r.up x2 k2
    have ra2 := ra.up (r.wd x2)
    refine ⟨p, vs, v, rfl, rfl, x2.kp _ _ np hp, by rw [← ra.length]; exact Nat.lt_of_lt_of_le hl (by decide), ?_⟩
    exact c.nx ((f.step r x2).put s2 b b0 np) (s2.put e1 e2 b np (RpA.append ra2 (.cons q1 .nil))) h2
  · exact h2.elim⟩
/-- from here on the list is data -/
noncomputable def AS.frz (i : Nat) (s : AS K) : AS K := ⟨s.ts, fun e t k => owS e[i]? fun ds => s.wp (e.set i (.dat (.list ds))) t k, fun {m B0 B1 H0 H1 Dd k} c {B e σ H t} f r h => by
  obtain ⟨ds, p, vs, e1, e2, b, b0, np, hp, ra, h⟩ := r.own h
  obtain ⟨B', h1, h2, r'⟩ := r.frz e1
  exact s.ok c (f.less h1 h2) r' h⟩
end
end CG
namespace CG
open PySem PySem.Spec PyProof.Rows L2
/-- // by a positive divisor below 2^64 -/
noncomputable def CDv (_ j : Int) : Prop := 0 < j ∧ j < 18446744073709551616
theorem op_dvU {X : Cx} : OpR X (binaryOp .FloorDiv) (rI CDv fun i j => .int (i / j)) := by
  intro pins s σ H x y v u Q I rx ry h
  obtain ⟨i, j, e1, e2, hc, q⟩ := h
  refine op_fdivW pins s σ H x y v u Q I rx ry ⟨i, j, e1, e2, ⟨hc.1, ?_⟩, q⟩
  obtain ⟨h1, h2⟩ := hc
  have h3 : j.natAbs < 2 ^ 64 := by omega
  have h4 : j.natAbs ≠ 0 := by omega
  have := (Nat.log2_lt h4).mpr h3
  omega
section
variable {K : PySem.W.Frag}
noncomputable abbrev aDv (K : PySem.W.Frag) : A2 K := aI K CDv fun i j => i / j
noncomputable def AS.never (K : PySem.W.Frag) : AS K := ⟨tNever, fun _ _ _ => False, fun {m B0 B1 H0 H1 Dd k} c {B e σ H t} f r h => h⟩
/-- x is True -/
noncomputable def isBF : PyData → PyData → (PyData → Prop) → Prop
  | .bool a, .bool b, k => k (.bool (decide (a = b)))
  | _, _, _ => False
noncomputable def aIsB (K : PySem.W.Frag) : A2 K := ⟨rIsB, isBF, fun {B a b k} h => by
  unfold isBF at h
  split at h
  · refine ⟨_, h, fun H1 x y _ hx hy Q q => ?_⟩
    exact ⟨_, _, rp_bl.mp hx, rp_bl.mp hy, q _ H1 (Same.refl H1) (rp_bl.mpr rfl)⟩
  · exact h.elim⟩
noncomputable def isNotBF : PyData → PyData → (PyData → Prop) → Prop
  | .bool a, .bool b, k => k (.bool (!decide (a = b)))
  | _, _, _ => False
noncomputable def aIsNotB (K : PySem.W.Frag) : A2 K := ⟨rNotB, isNotBF, fun {B a b k} h => by
  unfold isNotBF at h
  split at h
  · refine ⟨_, h, fun H1 x y _ hx hy Q q => ?_⟩
    exact ⟨_, _, rp_bl.mp hx, rp_bl.mp hy, q _ H1 (Same.refl H1) (rp_bl.mpr rfl)⟩
  · exact h.elim⟩
/-- x in a list, a tuple of flat things -/
noncomputable def rInU (K : PySem.W.Frag) : R2 := fun x y H Q => rInD K x y H Q ∨ rIn K false x y H Q
noncomputable def rNotInU (K : PySem.W.Frag) : R2 := fun x y H Q => rNotInD K x y H Q ∨ rIn K true x y H Q
noncomputable def isI : PyData → Bool
  | .int _ => true
  | _ => false
noncomputable def inF : PyData → PyData → (PyData → Prop) → Prop
  | d, .list ds, k => Cmp d (.list ds) ∧ k (.bool (ds.any fun z => PyData.eqv z d))
  | .int i, .tuple ds, k => ds.all isI = true ∧ k (.bool (ds.any fun z => PyData.eqv z (.int i)))
  | _, _, _ => False
noncomputable def notInF : PyData → PyData → (PyData → Prop) → Prop
  | d, .list ds, k => Cmp d (.list ds) ∧ k (.bool (!ds.any fun z => PyData.eqv z d))
  | .int i, .tuple ds, k => ds.all isI = true ∧ k (.bool (!ds.any fun z => PyData.eqv z (.int i)))
  | _, _, _ => False
theorem ints_all {B : Addr → Prop} {H : Hp} {i : Int} : ∀ {ds : List PyData} {xs : List V}, ds.all isI = true → RpA K B H ds xs → xs.all flatV = true ∧ inV (.int i) xs = ds.any fun z => PyData.eqv z (.int i)
  | [], xs, _, r => by rw [rpa_nil.mp r]; exact ⟨rfl, rfl⟩
  | d :: ds, xs, h, r => by
    obtain ⟨x, t, rfl, h1, h2⟩ := rpa_cons.mp r
    rw [List.all_cons, Bool.and_eq_true] at h
    obtain ⟨g1, g2⟩ := ints_all (i := i) h.2 h2
    cases d with
    | int j =>
      obtain rfl := rp_int.mp h1
      refine ⟨by rw [List.all_cons, g1]; rfl, ?_⟩
      unfold inV at g2 ⊢
      rw [List.any_cons, List.any_cons, g2]
      congr 1
    | _ => cases h.1
noncomputable def aIn (K : PySem.W.Frag) : A2 K := ⟨rInU K, inF, fun {B a b k} h => by
  unfold inF at h
  split at h
  · refine ⟨_, h.2, fun H1 x y al hx hy Q q => .inl ⟨_, _, Rp.dp _ _ hx h.1.1.1, Rp.dp _ _ hy h.1.2.1, h.1.1.2, h.1.2.2, q _ H1 (Same.refl H1) (rp_bl.mpr rfl)⟩⟩
  · refine ⟨_, h.2, fun H1 x y al hx hy Q q => ?_⟩
    obtain ⟨p, xs, rfl, na, s, t⟩ := rp_tup.mp hy
    obtain rfl := rp_int.mp hx
    obtain ⟨g1, g2⟩ := ints_all h.1 t
    refine .inr ⟨p, xs, rfl, .inr s, rfl, g1, ?_⟩
    rw [if_neg (by decide), g2]
    exact q _ H1 (Same.refl H1) (rp_bl.mpr rfl)
  · exact h.elim⟩
noncomputable def aNotIn (K : PySem.W.Frag) : A2 K := ⟨rNotInU K, notInF, fun {B a b k} h => by
  unfold notInF at h
  split at h
  · refine ⟨_, h.2, fun H1 x y al hx hy Q q => .inl ⟨_, _, Rp.dp _ _ hx h.1.1.1, Rp.dp _ _ hy h.1.2.1, h.1.1.2, h.1.2.2, q _ H1 (Same.refl H1) (rp_bl.mpr rfl)⟩⟩
  · refine ⟨_, h.2, fun H1 x y al hx hy Q q => ?_⟩
    obtain ⟨p, xs, rfl, na, s, t⟩ := rp_tup.mp hy
    obtain rfl := rp_int.mp hx
    obtain ⟨g1, g2⟩ := ints_all h.1 t
    refine .inr ⟨p, xs, rfl, .inr s, rfl, g1, ?_⟩
    rw [if_pos rfl, g2]
    exact q _ H1 (Same.refl H1) (rp_bl.mpr rfl)
  · exact h.elim⟩
theorem rgV_rp {B : Addr → Prop} {H : Hp} {a b : Int} : RpA K B H (rngD a b) (rgV a b) := by
  have e1 : rngD a b = ((List.range (b - a).toNat).map fun i : Nat => a + (i : Int)).map PyData.int := by unfold rngD; rw [List.map_map]; rfl
  have e2 : rgV a b = ((List.range (b - a).toNat).map fun i : Nat => a + (i : Int)).map V.int := by unfold rgV; rw [List.map_map]; rfl
  rw [e1, e2]
  exact RpA.ints _
noncomputable def RgB (a b : Int) : Prop := -4611686018427387904 ≤ a ∧ a ≤ 1000000 ∧ -4611686018427387904 ≤ b ∧ b ≤ 1000000 ∧ b - a ≤ 1000000
theorem RgB.ok {a b : Int} (h : RgB a b) : RgOk a b := by
  obtain ⟨h1, h2, h3, h4, h5⟩ := h
  exact ⟨by omega, by omega, by omega, by omega, by omega⟩
noncomputable def AF.lstRg (a : AE K) : AF K := ⟨tLstRg (tRg1 a.te), fun e t k => a.wp e t fun d t1 => unI d fun n => RgB 0 n ∧ k (rngD 0 n) t1, fun {m B0 B e σ H t k} r h Q q =>
  a.ok r h _ fun v d H1 t1 x1 k1 h1 r1 => by
    obtain ⟨n, rfl, hb, hk⟩ := unI_of h1
    have r2 := (r.up x1 k1)
    refine ⟨n, rp_int.mp r1, hb.ok, fun p np => ?_⟩
    have s := same_new (o := .lst (rgV 0 n)) np
    exact q p _ _ _ t1 (none_back r.ok x1 np) (x1.trans (m.xs k1 s)) (m.same k1 s) hk upd_same rgV_rp⟩
/-- x, y = a, [..] -/
noncomputable def AS.parB (i j : Nat) (hij : i ≠ j) (a : AE K) (b : AF K) : AS K := ⟨tPar i j (tCons a.te (tCons b.te tNil)), fun e t k => a.wp e t fun x t1 => b.wp e t1 fun ds t2 => k.nx ((e.set i (.dat x)).set j (.own ds)) t2, fun {m B0 B1 H0 H1 Dd k} c {B e σ H t} f r h =>
  a.ok r h _ fun v x H2 t2 x2 k2 h2 r2 => by
    have s2 := r.up x2 k2
    refine b.ok s2 h2 _ fun L ds vs H3 t3 nL x3 k3 h3 hL ra => ⟨v, .ref L, rfl, ?_⟩
    have nB : ¬ B L := s2.al.new nL
    have s2' := s2.set (i := i) r2
    exact c.nx ((f.step r x2).new s2 nL x3) (s2'.setOwn nL x3 k3 hL ra) h3⟩
noncomputable def startE (N : List Str) (xs : List Sl) : En := xs ++ List.replicate (N.length - xs.length) .un
theorem rep_args {m : Dck} {B : Addr → Prop} {H : Hp} {t : Tq} {N : List Str} (al : Al B H) (pb : ∀ a, m.pl a → B a) (ok : m.ok H t) : ∀ {xs : List Sl} {vs : List V}, xs.length = vs.length →
    (∀ i : Nat, RepS K m B B H xs[i]? (vs[i]?.map some)) → (∀ x ∈ xs, ∀ ds, x ≠ .own ds) → Rep K m B B (startE N xs) (L2.start N vs) H t := by
  intro xs vs hl hs hn
  refine ⟨al, pb, fun _ h => h, ok, ?_, fun i => ?_, fun i j p ds es h1 => ?_⟩
  · unfold startE L2.start
    rw [List.length_append, List.length_append, List.length_map, List.length_replicate, List.length_replicate, hl]
  · unfold startE L2.start
    by_cases hi : i < xs.length
    · rw [List.getElem?_append_left hi, List.getElem?_append_left (by rw [List.length_map, ← hl]; exact hi), List.getElem?_map]
      exact hs i
    · rw [List.getElem?_append_right (by omega)]
      cases q : (List.replicate (N.length - xs.length) Sl.un)[i - xs.length]? with
      | none => trivial
      | some y =>
        rw [List.getElem?_replicate] at q
        split at q
        · cases q
          trivial
        · cases q
  · exfalso
    unfold startE at h1
    by_cases hi : i < xs.length
    · rw [List.getElem?_append_left hi, List.getElem?_eq_getElem hi] at h1
      exact hn _ (List.getElem_mem hi) ds (Option.some.inj h1)
    · rw [List.getElem?_append_right (by omega), List.getElem?_replicate] at h1
      split at h1
      · cases h1
      · cases h1
theorem rep_dats {m : Dck} {B : Addr → Prop} {H : Hp} : ∀ {ds : List PyData} {vs : List V}, RpA K B H ds vs → ∀ i : Nat, RepS K m B B H (ds.map Sl.dat)[i]? (vs[i]?.map some) := by
  intro ds vs r i
  rw [List.getElem?_map]
  cases q : ds[i]? with
  | none => trivial
  | some d =>
    obtain ⟨v, hv, rv⟩ := r.get q
    exact ⟨v, by rw [hv]; rfl, rv⟩
theorem cn_def {m : Dck} {B : Addr → Prop} {H : Hp} {Q : VK} {k : PK} (hq : ∀ v d H' t', Xt m.pl H H' → m.ok H' t' → k d t' → Rp K B H' d v → Q v H') :
    Cn K m B H B H { nx := fun _ t' => k .none t', rt := k } { nx := fun _ H' => Q .non H', rt := Q } :=
  ⟨fun f r h => hq .non .none _ _ f.x0 r.ok h (rp_non.mpr rfl), fun _ _ h => h.elim, fun _ _ h => h.elim, fun x k h r => hq _ _ _ _ x k h r⟩
/-- a def over data -/
theorem okA {P : Program} {w : World} {mg : Str → Option Value} {base : Heap} {x : Str} {st : Stmt} {f : Addr} {fd : FuncData} {N ps : List Str} {k : Nat} (h : Has K mg x st ps f fd) (S : FnScope N ps (defScope st)) (b : AS K) (p : Pm)
    (hb : ∀ (cd : Value) (A : Around) (out : List Env) (s : Shared) (H : Hp) (E : XK), A.guards = some [] → Room k (A.deeper (envOfC x (defScope st) s.heap.objs.size f cd)) → ∃ ts, PSs (cxOf CX0 P w K mg base N x (defScope st) f cd A out s H E).nox (defBody st) ts ∧ ts = b.ts)
    (hw : ∀ ds t (kk : PK), p.w ds t kk → ds.length = ps.length ∧ b.wp (startE N (ds.map Sl.dat)) t { nx := fun _ t' => kk .none t', rt := kk }) : FnG P w K mg base CX0 (k + 1) f fd ps (spA K p) := by
  refine okG h.F S (fun vs H Q E h => ?_) (fun cd A out s H vs Q E hgd hr h => ?_)
  · obtain ⟨m, B, t, ds, al, pb, ok, ra, hp⟩ := h
    rw [← ra.length]
    exact (hw ds t _ hp).1
  · obtain ⟨m, B, t, ds, al, pb, ok, ra, hp⟩ := h
    obtain ⟨ts, hts, rfl⟩ := hb cd A out s H E hgd hr
    refine ⟨_, hts, ?_⟩
    have r : Rep K m B B (startE N (ds.map Sl.dat)) (L2.start N vs) H t := rep_args al pb ok (by rw [List.length_map]; exact ra.length) (rep_dats ra) (fun x hx es => by
      obtain ⟨d, _, rfl⟩ := List.mem_map.mp hx
      intro z
      cases z)
    refine b.ok (cn_def (k := fun d t' => ∀ v H', Xt m.pl H H' → m.ok H' t' → Rp K B H' d v → Q v H') fun v d H' t' x k hk rv => hk v H' x k rv) ⟨⟨fun _ h => h, fun _ h => .inl h⟩, Xt.refl (m.al ok), fun _ h => .inl h, Xt.refl al⟩ r (hw ds t _ hp).2
theorem okD {P : Program} {w : World} {mg : Str → Option Value} {base : Heap} {x : Str} {st : Stmt} {f : Addr} {fd : FuncData} {N ps : List Str} {k : Nat} {M : Dck → Prop} (h : Has K mg x st ps f fd) (S : FnScope N ps (defScope st)) (b : AS K) (p : Pm)
    (hb : ∀ (cd : Value) (A : Around) (out : List Env) (s : Shared) (H : Hp) (E : XK), A.guards = some [] → Room k (A.deeper (envOfC x (defScope st) s.heap.objs.size f cd)) → ∃ ts, PSs (cxOf CX0 P w K mg base N x (defScope st) f cd A out s H E).nox (defBody st) ts ∧ ts = b.ts)
    (hw : ∀ ds t (kk : PK), p.w ds t kk → ds.length + 1 = ps.length ∧ b.wp (startE N (.deck M :: ds.map Sl.dat)) t { nx := fun _ t' => kk .none t', rt := kk }) : FnG P w K mg base CX0 (k + 1) f fd ps (spD K M p) := by
  refine okG h.F S (fun vs H Q E h => ?_) (fun cd A out s H vs Q E hgd hr h => ?_)
  · obtain ⟨m, B, t, ds, ws, rfl, hM, al, pb, ok, ra, hp⟩ := h
    rw [List.length_cons, ← ra.length]
    exact (hw ds t _ hp).1
  · obtain ⟨m, B, t, ds, ws, rfl, hM, al, pb, ok, ra, hp⟩ := h
    obtain ⟨ts, hts, rfl⟩ := hb cd A out s H E hgd hr
    refine ⟨_, hts, ?_⟩
    have r : Rep K m B B (startE N (.deck M :: ds.map Sl.dat)) (L2.start N (.ref m.D :: ws)) H t := rep_args al pb ok (by rw [List.length_cons, List.length_cons, List.length_map, ra.length]) (fun i => by
      cases i with
      | zero => exact ⟨rfl, hM⟩
      | succ i =>
        rw [List.getElem?_cons_succ, List.getElem?_cons_succ]
        exact rep_dats ra i) (fun x hx es => by
      rcases List.mem_cons.mp hx with rfl | hx
      · intro z
        cases z
      · obtain ⟨d, _, rfl⟩ := List.mem_map.mp hx
        intro z
        cases z)
    refine b.ok (cn_def (k := fun d t' => ∀ v H', Xt m.pl H H' → m.ok H' t' → Rp K B H' d v → Q v H') fun v d H' t' x k hk rv => hk v H' x k rv) ⟨⟨fun _ h => h, fun _ h => .inl h⟩, Xt.refl (m.al ok), fun _ h => .inl h, Xt.refl al⟩ r (hw ds t _ hp).2
noncomputable def spLaw (K : PySem.W.Frag) : Sp := fun vs H Q _ => ∃ (a : Addr) (ns : List Int), vs = [.ref a] ∧ SqL K H a (ns.map V.int) ∧ ∀ H', Q (.bl true) H'
/-- the deck is made -/
noncomputable def spM (K : PySem.W.Frag) (M : Dck → Prop) : Sp := fun vs H Q _ => ∃ (a : Addr) (ns : List Int), vs = [.ref a] ∧ SqL K H a (ns.map V.int) ∧ ∀ m H', M m → m.ok H' 0 → Q (.ref m.D) H'
theorem okLaw {P : Program} {w : World} {mg : Str → Option Value} {base : Heap} {x : Str} {st : Stmt} {f : Addr} {fd : FuncData} {N : List Str} {p : Str} {k : Nat} {M : Dck → Prop} (h : Has K mg x st [p] f fd) (S : FnScope N [p] (defScope st)) (b : AS K)
    (hb : ∀ (cd : Value) (A : Around) (out : List Env) (s : Shared) (H : Hp) (E : XK), A.guards = some [] → Room k (A.deeper (envOfC x (defScope st) s.heap.objs.size f cd)) → ∃ ts, PSs (cxOf CX0 P w K mg base N x (defScope st) f cd A out s H E).nox (defBody st) ts ∧ ts = tSeq (tAsg (tCall (spM K M) [] E0 (tCons (tVar 0) tNil)) (gName 1)) b.ts)
    (hN : 2 ≤ N.length) (hw : b.wp (startE N [.un, .deck M]) 0 { nx := fun _ _ => False, rt := fun d _ => d = .bool true }) : FnG P w K mg base CX0 (k + 1) f fd [p] (spLaw K) := by
  refine okG h.F S (fun vs H Q E h => ?_) (fun cd A out s H vs Q E hgd hr h => ?_)
  · obtain ⟨a, ns, rfl, _⟩ := h
    rfl
  · obtain ⟨a, ns, rfl, hS, q⟩ := h
    obtain ⟨ts, hts, rfl⟩ := hb cd A out s H E hgd hr
    refine ⟨_, hts, ?_⟩
    refine ⟨.ref a, rfl, a, ns, rfl, hS, fun m H' hM ok => ?_⟩
    have e1 : (L2.start N [V.ref a]).set 1 (some (.ref m.D)) = L2.start N [.ref a, .ref m.D] := by
      unfold L2.start
      match N, hN with
      | x :: y :: r, _ => rfl
    show b.ts _ ((L2.start N [V.ref a]).set 1 (some (.ref m.D))) H'
    rw [e1]
    have r : Rep K m m.pl m.pl (startE N [.un, .deck M]) (L2.start N [.ref a, .ref m.D]) H' 0 := rep_args (m.al ok) (fun _ h => h) ok rfl (fun i => by
      match i with
      | 0 => trivial
      | 1 => exact ⟨rfl, hM⟩
      | i + 2 => trivial) (fun x hx es => by
      simp only [List.mem_cons, List.not_mem_nil, or_false] at hx
      rcases hx with rfl | rfl <;> (intro z; cases z))
    refine b.ok (B1 := m.pl) (H1 := H') (k := { nx := fun _ _ => False, rt := fun d _ => d = .bool true }) ⟨fun _ _ h => h.elim, fun _ _ h => h.elim, fun _ _ h => h.elim, fun {v d H t} x k h r => ?_⟩ ⟨⟨fun _ h => h, fun _ h => .inl h⟩, Xt.refl (m.al ok), fun _ h => .inl h, Xt.refl (m.al ok)⟩ r hw
    obtain rfl : d = .bool true := h
    rw [rp_bl.mp r]
    exact q _
end
end CG
namespace CG
open PySem PySem.Spec PyProof.Rows L2
section
variable {K : PySem.W.Frag}
theorem w_AE_var  (i : Nat) : (AE.var K i).wp = fun e t k => rdS e[i]? fun d => k d t := rfl
theorem t_AE_var  (i : Nat) : (AE.var K i).te = tVar i := rfl
theorem w_AE_int  (i : Int) : (AE.int K i).wp = fun _ t k => k (.int i) t := rfl
theorem t_AE_int  (i : Int) : (AE.int K i).te = tC (.int i) := rfl
theorem w_AE_bl  (b : Bool) : (AE.bl K b).wp = fun _ t k => k (.bool b) t := rfl
theorem t_AE_bl  (b : Bool) : (AE.bl K b).te = tC (.bl b) := rfl
theorem w_AE_op (o : A2 K) (a b : AE K) : (AE.op o a b).wp = fun e t k => a.wp e t fun x t1 => b.wp e t1 fun y t2 => o.f x y fun z => k z t2 := rfl
theorem t_AE_op (o : A2 K) (a b : AE K) : (AE.op o a b).te = tOp o.r a.te b.te := rfl
theorem w_AE_un (o : A1 K) (a : AE K) : (AE.un o a).wp = fun e t k => a.wp e t fun x t1 => o.f x fun z => k z t1 := rfl
theorem t_AE_un (o : A1 K) (a : AE K) : (AE.un o a).te = tUn o.r a.te := rfl
theorem w_AA_nil  : (AA.nil K).wp = fun _ t k => k [] t := rfl
theorem t_AA_nil  : (AA.nil K).ta = tNil := rfl
theorem w_AA_cons (a : AE K) (b : AA K) : (AA.cons a b).wp = fun e t k => a.wp e t fun x t1 => b.wp e t1 fun xs t2 => k (x :: xs) t2 := rfl
theorem t_AA_cons (a : AE K) (b : AA K) : (AA.cons a b).ta = tCons a.te b.ta := rfl
theorem w_AE_tup (a : AA K) : (AE.tup a).wp = fun e t k => a.wp e t fun ds t1 => ds.length ≤ 100000 ∧ k (.tuple ds) t1 := rfl
theorem t_AE_tup (a : AA K) : (AE.tup a).te = tTup a.ta := rfl
theorem w_AE_lst (a : AA K) : (AE.lst a).wp = fun e t k => a.wp e t fun ds t1 => ds.length ≤ 100000 ∧ k (.list ds) t1 := rfl
theorem t_AE_lst (a : AA K) : (AE.lst a).te = tLst a.ta := rfl
theorem w_AE_cb (o : AC K) (a : AA K) : (AE.cb o a).wp = fun e t k => a.wp e t fun ds t1 => o.f ds fun z => k z t1 := rfl
theorem t_AE_cb (o : AC K) (a : AA K) : (AE.cb o a).te = tCB o.r a.ta := rfl
theorem w_AE_call (p : Pm) (E : XK) (a : AA K) : (AE.call p E a).wp = fun e t k => a.wp e t fun ds t1 => p.w ds t1 k := rfl
theorem t_AE_call (p : Pm) (E : XK) (a : AA K) : (AE.call p E a).te = tCall (spA K p) [] E a.ta := rfl
theorem w_AE_callD (M : Dck → Prop) (p : Pm) (E : XK) (i : Nat) (a : AA K) : (AE.callD M p E i a).wp = fun e t k => dkS e[i]? M ∧ a.wp e t fun ds t1 => p.w ds t1 k := rfl
theorem t_AE_callD (M : Dck → Prop) (p : Pm) (E : XK) (i : Nat) (a : AA K) : (AE.callD M p E i a).te = tCall (spD K M p) [] E (tCons (tVar i) a.ta) := rfl
theorem w_AT_test (a : AE K) : (AT.test a).wp = fun e t k => a.wp e t fun d t1 => unB d fun b => k b t1 := rfl
theorem t_AT_test (a : AE K) : (AT.test a).tt = tTest a.te := rfl
theorem w_AT_b (a : AE K) : (AT.b a).wp = fun e t k => a.wp e t fun d t1 => unB d fun b => k b t1 := rfl
theorem t_AT_b (a : AE K) : (AT.b a).tt = tB a.te := rfl
theorem w_AT_not (a : AT K) : (AT.not a).wp = fun e t k => a.wp e t fun b t1 => k (!b) t1 := rfl
theorem t_AT_not (a : AT K) : (AT.not a).tt = tNot a.tt := rfl
theorem w_AT_or (a b : AT K) : (AT.or a b).wp = fun e t k => a.wp e t fun c t1 => if c = true then k true t1 else b.wp e t1 k := rfl
theorem t_AT_or (a b : AT K) : (AT.or a b).tt = tOr a.tt b.tt := rfl
theorem w_AT_yes  : (AT.yes K).wp = fun _ t k => k true t := rfl
theorem t_AT_yes  : (AT.yes K).tt = tYes := rfl
theorem w_AO_none  : (AO.none K).wp = fun _ t k => k .none t := rfl
theorem t_AO_none  : (AO.none K).tO = tNoPart := rfl
theorem w_AO_some (a : AE K) : (AO.some a).wp = fun e t k => a.wp e t fun d t1 => unI d fun i => k (.some i) t1 := rfl
theorem t_AO_some (a : AE K) : (AO.some a).tO = tPart a.te := rfl
theorem w_AI_tup (a : AE K) : (AI.tup a).wp = fun e t k => a.wp e t fun d t1 => unT d fun ds => k ds t1 := rfl
theorem t_AI_tup (a : AE K) : (AI.tup a).ti = iTup K a.te := rfl
theorem w_AI_rng (a : AA K) : (AI.rng a).wp = fun e t k => a.wp e t fun ds t1 => unI1 ds fun n => (-(2 ^ 62) ≤ n ∧ n < 2 ^ 62) ∧ k (rngD 0 n) t1 := rfl
theorem t_AI_rng (a : AA K) : (AI.rng a).ti = iRng1 a.ta := rfl
theorem w_AG_name  (i : Nat) : (AG.name K i).wp = fun d e k => k (e.set i (.dat d)) := rfl
theorem t_AG_name  (i : Nat) : (AG.name K i).tg = gName i := rfl
theorem w_AGs_nil  : (AGs.nil K).wp = fun ds e k => ds = [] ∧ k e := rfl
theorem t_AGs_nil  : (AGs.nil K).tg = gNil := rfl
theorem n_AGs_nil  : (AGs.nil K).n = 0 := rfl
theorem w_AGs_cons (i : Nat) (g : AGs K) : (AGs.cons i g).wp = fun ds e k => hdW ds fun d ds => g.wp ds (e.set i (.dat d)) k := rfl
theorem t_AGs_cons (i : Nat) (g : AGs K) : (AGs.cons i g).tg = gCons (gName i) g.tg := rfl
theorem n_AGs_cons (i : Nat) (g : AGs K) : (AGs.cons i g).n = g.n + 1 := rfl
theorem w_AG_tup (g : AGs K) : (AG.tup g).wp = fun d e k => unT d fun ds => g.wp ds e k := rfl
theorem t_AG_tup (g : AGs K) : (AG.tup g).tg = gTup K g.n g.tg := rfl
theorem w_AF_ae (a : AF K) : (AF.ae a).wp = fun e t k => a.wp e t fun ds t1 => k (.list ds) t1 := rfl
theorem t_AF_ae (a : AF K) : (AF.ae a).te = a.te := rfl
theorem w_AF_lst (a : AA K) : (AF.lst a).wp = fun e t k => a.wp e t fun ds t1 => ds.length ≤ 100000 ∧ k ds t1 := rfl
theorem t_AF_lst (a : AA K) : (AF.lst a).te = tLst a.ta := rfl
theorem w_AF_lc (it : AI K) (g : AG K) (c : AT K) (a : AE K) (vs : List Nat) (hs : ∀ j ∈ g.sl, j ∈ vs) : (AF.lc it g c a vs hs).wp = fun e t k => it.wp e t fun ds t1 => ds.length ≤ 1000000 ∧ ∃ I : Nat → List PyData → Tq → Prop, I 0 [] t1 ∧
    (∀ (i : Nat) d acc t', ds[i]? = some d → I i acc t' → g.wp d (wipeE e vs) fun e2 => c.wp e2 t' fun b t3 => if b = true then a.wp e2 t3 fun x t4 => I (i + 1) (acc ++ [x]) t4 else I (i + 1) acc t3) ∧
    ∀ acc t', I ds.length acc t' → k acc t' := rfl
theorem t_AF_lc (it : AI K) (g : AG K) (c : AT K) (a : AE K) (vs : List Nat) (hs : ∀ j ∈ g.sl, j ∈ vs) : (AF.lc it g c a vs hs).te = tLc it.ti g.tg c.tt a.te vs := rfl
theorem w_AE_view (a : AE K) : (AE.view a).wp = fun e t k => a.wp (viewE e) t fun d t1 => flat d = true ∧ k d t1 := rfl
theorem t_AE_view (a : AE K) : (AE.view a).te = a.te := rfl
theorem w_AE_ownIx (i : Nat) (b : AE K) : (AE.ownIx i b).wp = fun e t k => owS e[i]? fun ds => b.wp e t fun y t1 => unI y fun j => atW ds j fun d => k d t1 := rfl
theorem t_AE_ownIx (i : Nat) (b : AE K) : (AE.ownIx i b).te = tOp (rIx K) (tVar i) b.te := rfl
theorem w_AE_ownSl (i : Nat) (lo hi : AO K) : (AE.ownSl i lo hi).wp = fun e t k => owS e[i]? fun ds => lo.wp e t fun l t2 => hi.wp e t2 fun u t3 => k (.list (cutD ds l u)) t3 := rfl
theorem t_AE_ownSl (i : Nat) (lo hi : AO K) : (AE.ownSl i lo hi).te = tSl (rSlU K) (tVar i) lo.tO hi.tO := rfl
theorem w_AS_nop  : (AS.nop K).wp = fun e t k => k.nx e t := rfl
theorem t_AS_nop  : (AS.nop K).ts = tNext := rfl
theorem w_AS_seq (a b : AS K) : (AS.seq a b).wp = fun e t k => a.wp e t { k with nx := fun e' t' => b.wp e' t' k } := rfl
theorem t_AS_seq (a b : AS K) : (AS.seq a b).ts = tSeq a.ts b.ts := rfl
theorem w_AS_set (i : Nat) (a : AE K) : (AS.set i a).wp = fun e t k => a.wp e t fun d t1 => k.nx (e.set i (.dat d)) t1 := rfl
theorem t_AS_set (i : Nat) (a : AE K) : (AS.set i a).ts = tAsg a.te (gName i) := rfl
theorem w_AS_asg (a : AE K) (g : AG K) : (AS.asg a g).wp = fun e t k => a.wp e t fun d t1 => g.wp d e fun e' => k.nx e' t1 := rfl
theorem t_AS_asg (a : AE K) (g : AG K) : (AS.asg a g).ts = tAsg a.te g.tg := rfl
theorem w_AS_par (i j : Nat) (a : AA K) : (AS.par i j a).wp = fun e t k => a.wp e t fun ds t1 => un2 ds fun x y => k.nx ((e.set i (.dat x)).set j (.dat y)) t1 := rfl
theorem t_AS_par (i j : Nat) (a : AA K) : (AS.par i j a).ts = tPar i j a.ta := rfl
theorem w_AS_ret (a : AE K) : (AS.ret a).wp = fun e t k => a.wp e t k.rt := rfl
theorem t_AS_ret (a : AE K) : (AS.ret a).ts = tRet a.te := rfl
theorem w_AS_ifS (c : AT K) (a b : AS K) : (AS.ifS c a b).wp = fun e t k => c.wp e t fun z t1 => if z = true then a.wp e t1 k else b.wp e t1 k := rfl
theorem t_AS_ifS (c : AT K) (a b : AS K) : (AS.ifS c a b).ts = tIfS c.tt a.ts b.ts := rfl
theorem w_AS_for (it : AI K) (g : AG K) (s : AS K) : (AS.for it g s).wp = fun e t k => it.wp e t fun ds t1 => ∃ I : Nat → En → Tq → Prop, I 0 e t1 ∧
    (∀ (i : Nat) d e' t', ds[i]? = some d → I i e' t' → g.wp d e' fun e2 => s.wp e2 t' { k with nx := I (i + 1), ct := I (i + 1), bk := k.nx }) ∧ ∀ e' t', I ds.length e' t' → k.nx e' t' := rfl
theorem t_AS_for (it : AI K) (g : AG K) (s : AS K) : (AS.for it g s).ts = tFor it.ti g.tg s.ts := rfl
theorem w_AS_setOwn (i : Nat) (a : AF K) : (AS.setOwn i a).wp = fun e t k => a.wp e t fun ds t1 => k.nx (e.set i (.own ds)) t1 := rfl
theorem t_AS_setOwn (i : Nat) (a : AF K) : (AS.setOwn i a).ts = tAsg a.te (gName i) := rfl
theorem w_AS_append (i : Nat) (a : AA K) : (AS.append i a).wp = fun e t k => owS e[i]? fun ds => ds.length < 100000 ∧ a.wp e t fun es t1 => un1 es fun d => k.nx (e.set i (.own (ds ++ [d]))) t1 := rfl
theorem t_AS_append (i : Nat) (a : AA K) : (AS.append i a).ts = tDrop (tBM K "list" rAppend (tVar i) a.ta) := rfl
theorem w_AF_lstRg (a : AE K) : (AF.lstRg a).wp = fun e t k => a.wp e t fun d t1 => unI d fun n => RgB 0 n ∧ k (rngD 0 n) t1 := rfl
theorem t_AF_lstRg (a : AE K) : (AF.lstRg a).te = tLstRg (tRg1 a.te) := rfl
theorem w_AS_parB (i j : Nat) (hij : i ≠ j) (a : AE K) (b : AF K) : (AS.parB i j hij a b).wp = fun e t k => a.wp e t fun x t1 => b.wp e t1 fun ds t2 => k.nx ((e.set i (.dat x)).set j (.own ds)) t2 := rfl
theorem t_AS_parB (i j : Nat) (hij : i ≠ j) (a : AE K) (b : AF K) : (AS.parB i j hij a b).ts = tPar i j (tCons a.te (tCons b.te tNil)) := rfl
theorem f_aAdd : (aAdd K).f = addF := rfl
theorem f_aMul : (aMul K).f = mulF := rfl
theorem f_aEq : (aEq K).f = eqF := rfl
theorem f_aNe : (aNe K).f = neF := rfl
theorem f_aIsN : (aIsN K).f = isNF := rfl
theorem f_aNotN : (aNotN K).f = notNF := rfl
theorem f_aIx : (aIx K).f = ixF := rfl
theorem f_aNeg : (aNeg K).f = negF := rfl
theorem f_aLen : (aLen K).f = lenF := rfl
theorem f_aRepr : (aRepr K).f = reprF := rfl
theorem f_aInt : (aInt K).f = intBF := rfl
theorem f_aIn : (aIn K).f = inF := rfl
theorem f_aNotIn : (aNotIn K).f = notInF := rfl
theorem f_aIsB : (aIsB K).f = isBF := rfl
theorem f_aIsNotB : (aIsNotB K).f = isNotBF := rfl
theorem f_aTup : (aTup K).f = tupF := rfl
theorem f_aI {C : Int → Int → Prop} {g : Int → Int → Int} : (aI K C g).f = intF C g := rfl
theorem f_aI0 {g : Int → Int → Int} : (aI0 K g).f = intF0 g := rfl
theorem f_aB0 {g : Int → Int → Bool} : (aB0 K g).f = boolF0 g := rfl
theorem f_aMin : (aMin K).f = twoF fun i j => if j < i then j else i := rfl
theorem f_aMax : (aMax K).f = twoF fun i j => if j > i then j else i := rfl
theorem t_aAdd : (aAdd K).r = rAddU K := rfl
theorem t_aMul : (aMul K).r = rMulU K := rfl
theorem t_aEq : (aEq K).r = rEqU K := rfl
theorem t_aNe : (aNe K).r = rNeU K := rfl
theorem t_aIsN : (aIsN K).r = rIsNU := rfl
theorem t_aNotN : (aNotN K).r = rNotNU := rfl
theorem t_aIx : (aIx K).r = rIx K := rfl
theorem t_aNeg : (aNeg K).r = rU fun i => .int (-i) := rfl
theorem t_aLen : (aLen K).r = rLenU K := rfl
theorem t_aRepr : (aRepr K).r = rRepr K := rfl
theorem t_aInt : (aInt K).r = rIntU := rfl
theorem t_aIn : (aIn K).r = rInU K := rfl
theorem t_aNotIn : (aNotIn K).r = rNotInU K := rfl
theorem t_aIsB : (aIsB K).r = rIsB := rfl
theorem t_aIsNotB : (aIsNotB K).r = rNotB := rfl
theorem t_aTup : (aTup K).r = rTupU K := rfl
theorem t_aMin : (aMin K).r = rMinU := rfl
theorem t_aMax : (aMax K).r = rMaxU := rfl
theorem t_aI {C : Int → Int → Prop} {g : Int → Int → Int} : (aI K C g).r = rI C fun i j => .int (g i j) := rfl
theorem t_aI0 {g : Int → Int → Int} : (aI0 K g).r = rI0 fun i j => .int (g i j) := rfl
theorem t_aB0 {g : Int → Int → Bool} : (aB0 K g).r = rI0 fun i j => .bl (g i j) := rfl
theorem dkS_deck {M : Dck → Prop} : dkS (some (.deck M)) M = True := by show (M = M) = True; simp
theorem rngD_length {lo hi : Int} : (rngD lo hi).length = (hi - lo).toNat := by unfold rngD; rw [List.length_map, List.length_range]
theorem rngD_get {lo hi : Int} {i : Nat} {d : PyData} (h : (rngD lo hi)[i]? = some d) : i < (hi - lo).toNat ∧ d = .int (lo + i) := by
  unfold rngD at h
  rw [List.getElem?_map] at h
  cases q : (List.range (hi - lo).toNat)[i]? with
  | none => rw [q] at h; cases h
  | some j =>
    rw [q] at h
    obtain ⟨hi, e⟩ := List.getElem?_eq_some_iff.mp q
    rw [List.getElem_range] at e
    subst e
    rw [List.length_range] at hi
    exact ⟨hi, (Option.some.inj h).symm⟩
theorem atW_of {ds : List PyData} {i : Int} {d : PyData} {k : PyData → Prop} (h : atI ds i = some d) (q : k d) : atW ds i k := ⟨d, h, q⟩
theorem atI_nn {α : Type} {xs : List α} {i : Nat} : atI xs (i : Int) = xs[i]? := by
  unfold atI ixN
  by_cases h : i < xs.length
  · rw [if_pos (by omega), if_pos (by omega)]
    simp
  · rw [if_pos (by omega), if_neg (by omega), List.getElem?_eq_none (by omega)]
    rfl
theorem q_inL {d : PyData} {ds : List PyData} {k : PyData → Prop} : inF d (.list ds) k = (Cmp d (.list ds) ∧ k (.bool (ds.any fun z => PyData.eqv z d))) := by cases d <;> rfl
theorem q_inT {i : Int} {ds : List PyData} {k : PyData → Prop} : inF (.int i) (.tuple ds) k = (ds.all isI = true ∧ k (.bool (ds.any fun z => PyData.eqv z (.int i)))) := rfl
theorem q_notInL {d : PyData} {ds : List PyData} {k : PyData → Prop} : notInF d (.list ds) k = (Cmp d (.list ds) ∧ k (.bool (!ds.any fun z => PyData.eqv z d))) := by cases d <;> rfl
theorem q_notInT {i : Int} {ds : List PyData} {k : PyData → Prop} : notInF (.int i) (.tuple ds) k = (ds.all isI = true ∧ k (.bool (!ds.any fun z => PyData.eqv z (.int i)))) := rfl
theorem q_isB {a b : Bool} {k : PyData → Prop} : isBF (.bool a) (.bool b) k = k (.bool (decide (a = b))) := rfl
theorem q_isNotB {a b : Bool} {k : PyData → Prop} : isNotBF (.bool a) (.bool b) k = k (.bool (!decide (a = b))) := rfl
theorem q_addI {i j : Int} {k : PyData → Prop} : addF (.int i) (.int j) k = k (.int (i + j)) := rfl
theorem q_addT {ds es : List PyData} {k : PyData → Prop} : addF (.tuple ds) (.tuple es) k = (ds.length + es.length ≤ 100000 ∧ k (.tuple (ds ++ es))) := rfl
theorem q_addL {ds es : List PyData} {k : PyData → Prop} : addF (.list ds) (.list es) k = (ds.length + es.length ≤ 100000 ∧ k (.list (ds ++ es))) := rfl
theorem q_int {C : Int → Int → Prop} {g : Int → Int → Int} {i j : Int} {k : PyData → Prop} : intF C g (.int i) (.int j) k = (C i j ∧ k (.int (g i j))) := rfl
theorem q_int0 {g : Int → Int → Int} {i j : Int} {k : PyData → Prop} : intF0 g (.int i) (.int j) k = k (.int (g i j)) := rfl
theorem q_bool0 {g : Int → Int → Bool} {i j : Int} {k : PyData → Prop} : boolF0 g (.int i) (.int j) k = k (.bool (g i j)) := rfl
theorem q_mulI {i j : Int} {k : PyData → Prop} : mulF (.int i) (.int j) k = (CMul i j ∧ k (.int (i * j))) := rfl
theorem q_mulT {ds : List PyData} {n : Int} {k : PyData → Prop} : mulF (.tuple ds) (.int n) k = ((ds ≠ [] ∧ 2 ≤ n ∧ n ≤ 1000 ∧ ds.length ≤ 1000) ∧ k (.tuple (List.replicate n.toNat ds).flatten)) := rfl
theorem q_mulL {ds : List PyData} {n : Int} {k : PyData → Prop} : mulF (.list ds) (.int n) k = ((0 ≤ n ∧ n ≤ 1000 ∧ ds.length ≤ 1000) ∧ k (.list (List.replicate n.toNat ds).flatten)) := rfl
theorem q_eqI {i j : Int} {k : PyData → Prop} : eqF (.int i) (.int j) k = k (.bool (decide (i = j))) := rfl
theorem q_eqS {i j : Str} {k : PyData → Prop} : eqF (.str i) (.str j) k = k (.bool (decide (i = j))) := rfl
theorem q_neI {i j : Int} {k : PyData → Prop} : neF (.int i) (.int j) k = k (.bool (!decide (i = j))) := rfl
theorem q_neS {i j : Str} {k : PyData → Prop} : neF (.str i) (.str j) k = k (.bool (!decide (i = j))) := rfl
theorem q_isN {a : PyData} {k : PyData → Prop} : isNF a .none k = k (.bool (isNone a)) := by cases a <;> rfl
theorem q_notN {a : PyData} {k : PyData → Prop} : notNF a .none k = k (.bool (!isNone a)) := by cases a <;> rfl
theorem q_ixT {ds : List PyData} {i : Int} {k : PyData → Prop} : ixF (.tuple ds) (.int i) k = atW ds i k := rfl
theorem q_ixL {ds : List PyData} {i : Int} {k : PyData → Prop} : ixF (.list ds) (.int i) k = atW ds i k := rfl
theorem q_neg {i : Int} {k : PyData → Prop} : negF (.int i) k = k (.int (-i)) := rfl
theorem q_lenT {ds : List PyData} {k : PyData → Prop} : lenF [.tuple ds] k = k (.int ds.length) := rfl
theorem q_lenL {ds : List PyData} {k : PyData → Prop} : lenF [.list ds] k = k (.int ds.length) := rfl
theorem q_repr {d : PyData} {k : PyData → Prop} : reprF [d] k = (Shx d ∧ k (.str d.shown)) := rfl
theorem q_two {g : Int → Int → Int} {i j : Int} {k : PyData → Prop} : twoF g [.int i, .int j] k = k (.int (g i j)) := rfl
theorem q_intB {b : Bool} {k : PyData → Prop} : intBF [.bool b] k = k (.int (if b then 1 else 0)) := rfl
theorem q_tupT {ds : List PyData} {k : PyData → Prop} : tupF [.tuple ds] k = k (.tuple ds) := rfl
theorem q_tupL {ds : List PyData} {k : PyData → Prop} : tupF [.list ds] k = k (.tuple ds) := rfl
theorem q_slT {ds : List PyData} {lo hi : Option Int} {k : PyData → Prop} : slF (.tuple ds) lo hi k = k (.tuple (cutD ds lo hi)) := rfl
theorem q_slL {ds : List PyData} {lo hi : Option Int} {k : PyData → Prop} : slF (.list ds) lo hi k = k (.list (cutD ds lo hi)) := rfl
theorem q_unB {b : Bool} {k : Bool → Prop} : unB (.bool b) k = k b := rfl
theorem q_unI {i : Int} {k : Int → Prop} : unI (.int i) k = k i := rfl
theorem q_unT {ds : List PyData} {k : List PyData → Prop} : unT (.tuple ds) k = k ds := rfl
theorem q_unL {ds : List PyData} {k : List PyData → Prop} : unL (.list ds) k = k ds := rfl
theorem q_unI1 {i : Int} {k : Int → Prop} : unI1 [.int i] k = k i := rfl
theorem q_unI2 {i j : Int} {k : Int → Int → Prop} : unI2 [.int i, .int j] k = k i j := rfl
theorem q_unT1 {ds : List PyData} {k : List PyData → Prop} : unT1 [.tuple ds] k = k ds := rfl
theorem q_unS1T {ds : List PyData} {k : List PyData → Prop} : unS1 [.tuple ds] k = k ds := rfl
theorem q_unS1L {ds : List PyData} {k : List PyData → Prop} : unS1 [.list ds] k = k ds := rfl
theorem q_un1 {a : PyData} {k : PyData → Prop} : un1 [a] k = k a := rfl
theorem q_un2 {a b : PyData} {k : PyData → PyData → Prop} : un2 [a, b] k = k a b := rfl
theorem q_un3 {a b c : PyData} {k : PyData → PyData → PyData → Prop} : un3 [a, b, c] k = k a b c := rfl
theorem q_hd {a : PyData} {ds : List PyData} {k : PyData → List PyData → Prop} : hdW (a :: ds) k = k a ds := rfl
theorem q_rd {d : PyData} {k : PyData → Prop} : rdS (some (.dat d)) k = k d := rfl
theorem q_ow {ds : List PyData} {k : List PyData → Prop} : owS (some (.own ds)) k = k ds := rfl
theorem q_ctrT {c : Ctr} {k : List PyData → Prop} : unT c.d k = k [.int c.s, .int c.t, .int c.g, .int c.e] := rfl
theorem q_ctrI {c : Ctr} {i : Int} {k : PyData → Prop} : ixF c.d (.int i) k = atW [.int c.s, .int c.t, .int c.g, .int c.e] i k := rfl
theorem q_ctrS {c : Ctr} {k : PyData → Prop} : slF c.d (some 2) none k = k (.tuple [.int c.g, .int c.e]) := rfl
theorem q_ctrS2 {c : Ctr} {k : PyData → Prop} : slF c.d none (some 2) k = k (.tuple [.int c.s, .int c.t]) := rfl
theorem q_brdT {n : Int} {cs : List Ctr} {k : List PyData → Prop} : unT (boardD n cs) k = k [.int n, rowsD cs] := rfl
theorem q_brd0 {n : Int} {cs : List Ctr} {k : PyData → Prop} : ixF (boardD n cs) (.int 0) k = k (.int n) := by
  refine propext ⟨fun ⟨d, e, h⟩ => ?_, fun h => ⟨_, rfl, h⟩⟩
  cases e
  exact h
theorem q_brd1 {n : Int} {cs : List Ctr} {k : PyData → Prop} : ixF (boardD n cs) (.int 1) k = k (rowsD cs) := by
  refine propext ⟨fun ⟨d, e, h⟩ => ?_, fun h => ⟨_, rfl, h⟩⟩
  cases e
  exact h
theorem q_rowI {cs : List Ctr} {i : Int} {k : PyData → Prop} : ixF (rowsD cs) (.int i) k = atW (cs.map Ctr.d) i k := rfl
theorem q_rowT {cs : List Ctr} {k : List PyData → Prop} : unT (rowsD cs) k = k (cs.map Ctr.d) := rfl
theorem q_rowT1 {cs : List Ctr} {k : List PyData → Prop} : unT1 [rowsD cs] k = k (cs.map Ctr.d) := rfl
theorem q_rowL {cs : List Ctr} {k : PyData → Prop} : lenF [rowsD cs] k = k (.int cs.length) := by
  show k (.int (cs.map Ctr.d).length) = _
  rw [List.length_map]
theorem q_at0 {a : PyData} {ds : List PyData} {k : PyData → Prop} : atW (a :: ds) 0 k = k a := by
  refine propext ⟨fun ⟨d, e, h⟩ => ?_, fun h => ⟨_, ?_, h⟩⟩
  · have : atI (a :: ds) ((0 : Nat) : Int) = some d := e
    rw [atI_nn] at this
    cases this
    exact h
  · show atI (a :: ds) ((0 : Nat) : Int) = _
    rw [atI_nn]
    rfl
theorem q_at1 {a b : PyData} {ds : List PyData} {k : PyData → Prop} : atW (a :: b :: ds) 1 k = k b := by
  refine propext ⟨fun ⟨d, e, h⟩ => ?_, fun h => ⟨_, ?_, h⟩⟩
  · have : atI (a :: b :: ds) ((1 : Nat) : Int) = some d := e
    rw [atI_nn] at this
    cases this
    exact h
  · show atI (a :: b :: ds) ((1 : Nat) : Int) = _
    rw [atI_nn]
    rfl
theorem q_at2 {a b c : PyData} {ds : List PyData} {k : PyData → Prop} : atW (a :: b :: c :: ds) 2 k = k c := by
  refine propext ⟨fun ⟨d, e, h⟩ => ?_, fun h => ⟨_, ?_, h⟩⟩
  · have : atI (a :: b :: c :: ds) ((2 : Nat) : Int) = some d := e
    rw [atI_nn] at this
    cases this
    exact h
  · show atI (a :: b :: c :: ds) ((2 : Nat) : Int) = _
    rw [atI_nn]
    rfl
theorem q_at3 {a b c d' : PyData} {ds : List PyData} {k : PyData → Prop} : atW (a :: b :: c :: d' :: ds) 3 k = k d' := by
  refine propext ⟨fun ⟨d, e, h⟩ => ?_, fun h => ⟨_, ?_, h⟩⟩
  · have : atI (a :: b :: c :: d' :: ds) ((3 : Nat) : Int) = some d := e
    rw [atI_nn] at this
    cases this
    exact h
  · show atI (a :: b :: c :: d' :: ds) ((3 : Nat) : Int) = _
    rw [atI_nn]
    rfl
end
end CG
namespace CG
open PySem PySem.Spec PyProof.Rows L2
noncomputable def viewS : Sl → Sl
  | .own ds => .dat (.list ds)
  | x => x
theorem viewE_cons {x : Sl} {e : En} : viewE (x :: e) = viewS x :: viewE e := by cases x <;> rfl
theorem viewE_nil : viewE [] = [] := rfl
theorem viewS_own {ds : List PyData} : viewS (.own ds) = .dat (.list ds) := rfl
theorem viewS_dat {d : PyData} : viewS (.dat d) = .dat d := rfl
theorem viewS_deck {M : Dck → Prop} : viewS (.deck M) = .deck M := rfl
theorem flat_int {i : Int} : flat (.int i) = true := rfl
theorem flat_bool {i : Bool} : flat (.bool i) = true := rfl
theorem flat_str {i : Str} : flat (.str i) = true := rfl
theorem rng0_get {n : Int} {i : Nat} {d : PyData} (h : (rngD 0 n)[i]? = some d) : i < n.toNat ∧ d = .int (i : Int) := by
  obtain ⟨h1, h2⟩ := rngD_get h
  rw [Int.sub_zero] at h1
  rw [Int.zero_add] at h2
  exact ⟨h1, h2⟩
noncomputable def ctr (cs : List Ctr) (i : Nat) : Ctr := cs.getD i ⟨0, 1, 1, 1⟩
theorem ctr_get {cs : List Ctr} {i : Nat} (h : i < cs.length) : cs[i]? = some (ctr cs i) := by
  unfold ctr
  rw [List.getD_eq_getElem?_getD, List.getElem?_eq_getElem h]
  rfl
theorem ctr_mem {cs : List Ctr} {i : Nat} (h : i < cs.length) : ctr cs i ∈ cs := List.mem_of_getElem? (ctr_get h)
/-- a route from the kind k -/
noncomputable def Rt (cs : List Ctr) : Int → List Nat → Prop
  | _, [] => True
  | k, i :: is => i < cs.length ∧ (ctr cs i).s = k ∧ Rt cs (ctr cs i).t is
noncomputable def endK (cs : List Ctr) : Int → List Nat → Int
  | k, [] => k
  | _, i :: is => endK cs (ctr cs i).t is
noncomputable def rtD (is : List Nat) : PyData := .tuple (is.map fun i : Nat => .int (i : Int))
/-- all numbers are those of counters -/
noncomputable def InC (cs : List Ctr) (is : List Nat) : Prop := ∀ i ∈ is, i < cs.length
section
variable {cs : List Ctr} {is js : List Nat} {k a : Int} {n : Int} {i j : Nat}
theorem Rt.inC : ∀ {is : List Nat} {k : Int}, Rt cs k is → InC cs is
  | [], _, _ => fun i h => by simp at h
  | j :: is, k, h => fun i hi => by
    rcases List.mem_cons.mp hi with rfl | hi
    · exact h.1
    · exact Rt.inC h.2.2 i hi
theorem Rt.app : ∀ {is : List Nat} {k : Int}, Rt cs k (is ++ js) ↔ Rt cs k is ∧ Rt cs (endK cs k is) js
  | [], k => by simp [Rt, endK]
  | i :: is, k => by
    simp only [List.cons_append, Rt, endK, Rt.app (is := is)]
    constructor
    · rintro ⟨h1, h2, h3, h4⟩
      exact ⟨⟨h1, h2, h3⟩, h4⟩
    · rintro ⟨⟨h1, h2, h3⟩, h4⟩
      exact ⟨h1, h2, h3, h4⟩
theorem take_next {α : Type} {xs : List α} {x : α} {i : Nat} (h : xs[i]? = some x) : xs.take (i + 1) = xs.take i ++ [x] := by
  rw [List.take_add_one, h]
  rfl
end
theorem nums_app {is : List Nat} {x : Nat} : (is.map fun i : Nat => PyData.int (i : Int)) ++ [.int (x : Int)] = (is ++ [x]).map fun i : Nat => PyData.int (i : Int) := by
  rw [List.map_append]
  rfl
/-- the least amount ahead of a counter, of a route -/
noncomputable def bef (c : Ctr) (w : Int) : Int := c.g * ((w + c.e - 1) / c.e)
noncomputable def lst (cs : List Ctr) : List Nat → Int → Int
  | [], w => w
  | i :: is, w => bef (ctr cs i) (lst cs is w)
theorem Rt.drop {cs : List Ctr} {is : List Nat} {k : Int} (h : Rt cs k is) (m : Nat) : Rt cs (endK cs k (is.take m)) (is.drop m) := by
  rw [← List.take_append_drop m is, Rt.app] at h
  exact h.2
theorem InC.take {cs : List Ctr} {is : List Nat} (h : InC cs is) (m : Nat) : InC cs (is.take m) := fun i hi => h i (List.mem_of_mem_take hi)
theorem InC.drop {cs : List Ctr} {is : List Nat} (h : InC cs is) (m : Nat) : InC cs (is.drop m) := fun i hi => h i (List.mem_of_mem_drop hi)
theorem Rt.take {cs : List Ctr} {is : List Nat} {k : Int} (h : Rt cs k is) (m : Nat) : Rt cs k (is.take m) := by
  rw [← List.take_append_drop m is, Rt.app] at h
  exact h.1
/-- a loop of at most four counters -/
noncomputable def hd0 (is : List Nat) : Nat := is.headD 0
/-- numbers, and lists and tuples of them, not deep -/
noncomputable def Pl (n : Nat) (d : PyData) : Prop := d.hasDict = false ∧ d.canLay0 = true ∧ d.depth ≤ n
section
variable {n m : Nat} {d a b : PyData} {ds : List PyData}
theorem pl_int {i : Int} : Pl n (.int i) := ⟨by simp only [PyData.hasDict], by simp only [PyData.canLay0], by simp only [PyData.depth]; exact Nat.zero_le _⟩
theorem pl_bool {i : Bool} : Pl n (.bool i) := ⟨by simp only [PyData.hasDict], by simp only [PyData.canLay0], by simp only [PyData.depth]; exact Nat.zero_le _⟩
theorem pl_all : ∀ {ds : List PyData}, (∀ d ∈ ds, Pl n d) → PyData.hasDictAll ds = false ∧ PyData.canLayAll0 ds = true ∧ PyData.depthAll ds ≤ n
  | [], _ => ⟨by simp only [PyData.hasDictAll], by simp only [PyData.canLayAll0], by simp only [PyData.depthAll]; exact Nat.zero_le _⟩
  | d :: ds, h => by
    obtain ⟨h1, h2, h3⟩ := pl_all (ds := ds) fun x hx => h x (List.mem_cons_of_mem _ hx)
    obtain ⟨k1, k2, k3⟩ := h d List.mem_cons_self
    exact ⟨by simp only [PyData.hasDictAll, k1, h1, Bool.or_false], by simp only [PyData.canLayAll0, k2, h2, Bool.and_true], by simp only [PyData.depthAll]; exact Nat.max_le.mpr ⟨k3, h3⟩⟩
theorem pl_tup (h : ∀ d ∈ ds, Pl n d) : Pl (n + 1) (.tuple ds) := by
  obtain ⟨h1, h2, h3⟩ := pl_all h
  exact ⟨by simpa only [PyData.hasDict] using h1, by simpa only [PyData.canLay0] using h2, by simp only [PyData.depth]; omega⟩
theorem Pl.mono (h : Pl n d) (hn : n ≤ m) : Pl m d := ⟨h.1, h.2.1, Nat.le_trans h.2.2 hn⟩
theorem cmp_pl (ha : Pl 64 a) (hb : Pl 64 b) : Cmp a b := by
  refine ⟨⟨ha.1, ?_⟩, hb.1, ?_⟩
  · simp only [SeqAt.shaped, ha.2.1, Bool.true_and, decide_eq_true_eq]
    exact ha.2.2
  · simp only [SeqAt.shaped, hb.2.1, Bool.true_and, decide_eq_true_eq]
    exact hb.2.2
theorem eqv_self (ha : Pl n a) : PyData.eqv a a = true := SeqAt.eqv_refl a ha.2.1
theorem neT {es : List PyData} {k : PyData → Prop} (ha : Pl 64 (.tuple ds)) (hb : Pl 64 (.tuple es)) (h : k (.bool (!PyData.eqv (.tuple ds) (.tuple es)))) : neF (.tuple ds) (.tuple es) k := ⟨cmp_pl ha hb, h⟩
theorem q_neB {a b : Bool} {k : PyData → Prop} : neF (.bool a) (.bool b) k = k (.bool (!decide (a = b))) := by
  have e : PyData.eqv (.bool a) (.bool b) = decide (a = b) := by cases a <;> cases b <;> simp [PyData.eqv]
  refine propext ⟨fun h => by rw [← e]; exact h.2, fun h => ⟨cmp_pl pl_bool pl_bool, by rw [e]; exact h⟩⟩
theorem q_eqB {a b : Bool} {k : PyData → Prop} : eqF (.bool a) (.bool b) k = k (.bool (decide (a = b))) := by
  have e : PyData.eqv (.bool a) (.bool b) = decide (a = b) := by cases a <;> cases b <;> simp [PyData.eqv]
  refine propext ⟨fun h => by rw [← e]; exact h.2, fun h => ⟨cmp_pl pl_bool pl_bool, by rw [e]; exact h⟩⟩
theorem q_isiR {is : List Nat} : isTup (rtD is) = true := rfl
theorem q_rtT {is : List Nat} {k : List PyData → Prop} : unT (rtD is) k = k (is.map fun i : Nat => .int (i : Int)) := rfl
theorem q_rtT1 {is : List Nat} {k : List PyData → Prop} : unT1 [rtD is] k = k (is.map fun i : Nat => .int (i : Int)) := rfl
theorem q_rtI {is : List Nat} {i : Int} {k : PyData → Prop} : ixF (rtD is) (.int i) k = atW (is.map fun i : Nat => .int (i : Int)) i k := rfl
theorem q_rtA {is : List Nat} {i : Nat} {k : PyData → Prop} : addF (rtD is) (.tuple [.int (i : Int)]) k = (is.length + 1 ≤ 100000 ∧ k (rtD (is ++ [i]))) := by
  show ((is.map _).length + 1 ≤ 100000 ∧ k (.tuple (is.map _ ++ [.int (i : Int)]))) = _
  rw [List.length_map, nums_app]
  rfl
theorem q_rtL {is : List Nat} {k : PyData → Prop} : lenF [rtD is] k = k (.int is.length) := by
  show k (.int (is.map _).length) = _
  rw [List.length_map]
theorem q_rtS0 {is : List Nat} {m : Nat} {k : PyData → Prop} : slF (rtD is) none (some (m : Int)) k = k (rtD (is.take m)) := by
  show k (.tuple (cutD _ _ _)) = _
  rw [cutD_take, ← List.map_take]
  rfl
theorem q_rtS1 {is : List Nat} {m : Nat} {k : PyData → Prop} : slF (rtD is) (some (m : Int)) none k = k (rtD (is.drop m)) := by
  show k (.tuple (cutD _ _ _)) = _
  rw [cutD_drop, ← List.map_drop]
  rfl
theorem pl_ctr {c : Ctr} : Pl 1 c.d := pl_tup fun d hd => by
  simp only [List.mem_cons, List.not_mem_nil, or_false] at hd
  rcases hd with rfl | rfl | rfl | rfl <;> exact pl_int
theorem pl_rows {cs : List Ctr} : Pl 2 (rowsD cs) := pl_tup fun d hd => by
  obtain ⟨i, _, rfl⟩ := List.mem_map.mp hd
  exact pl_ctr
theorem pl_board {k : Int} {cs : List Ctr} : Pl 3 (boardD k cs) := pl_tup fun d hd => by
  simp only [List.mem_cons, List.not_mem_nil, or_false] at hd
  rcases hd with rfl | rfl
  · exact pl_int
  · exact pl_rows
end
end CG
namespace CG
open PySem PySem.Spec PyProof.Rows L2
structure Yn where
  nx : En → List Int → Tq → Prop
structure CnY (K : PySem.W.Frag) (m : Dck) (B0 : Addr → Prop) (H0 : Hp) (B1 : Addr → Prop) (H1 : Hp) (k : Yn) (D : GEnds) : Prop where
  nx : ∀ {B e σ H t ns}, Fr m B0 H0 B1 H1 B H → Rep K m B0 B e σ H t → k.nx e ns t → D.nx (ns.map V.int) σ H
structure AY (K : PySem.W.Frag) where
  ts : TGn
  wp : En → List Int → Tq → Yn → Prop
  ok : ∀ {m : Dck} {B0 B1 : Addr → Prop} {H0 H1 : Hp} {D : GEnds} {k : Yn}, CnY K m B0 H0 B1 H1 k D → ∀ {B : Addr → Prop} {e : En} {σ : L2.St} {H : Hp} {t : Tq} {ns : List Int}, Fr m B0 H0 B1 H1 B H → Rep K m B0 B e σ H t → wp e ns t k → ts D (ns.map V.int) σ H
section
variable {K : PySem.W.Frag}
noncomputable def AY.pl (b : AS K) : AY K := ⟨tPlain b.ts, fun e ns t k => b.wp e t { nx := fun e' t' => k.nx e' ns t', rt := fun _ _ => False }, fun {m B0 B1 H0 H1 D k} c {B e σ H t ns} f r h =>
  b.ok (Dd := D.at (ns.map V.int)) (k := { nx := fun e' t' => k.nx e' ns t', rt := fun _ _ => False }) ⟨fun f' r' h' => c.nx f' r' h', fun _ _ h => h.elim, fun _ _ h => h.elim, fun _ _ h => h.elim⟩ f r h⟩
noncomputable def AY.nil (K : PySem.W.Frag) : AY K := ⟨tG0, fun e ns t k => k.nx e ns t, fun {m B0 B1 H0 H1 D k} c {B e σ H t ns} f r h => c.nx f r h⟩
noncomputable def AY.seq (a b : AY K) : AY K := ⟨tGThen a.ts b.ts, fun e ns t k => a.wp e ns t { nx := fun e' ns' t' => b.wp e' ns' t' k }, fun {m B0 B1 H0 H1 D k} c {B e σ H t ns} f r h =>
  a.ok (D := { D with nx := fun ys' σ' H' => b.ts D ys' σ' H' }) (k := { nx := fun e' ns' t' => b.wp e' ns' t' k }) ⟨fun f' r' h' => b.ok c f' r' h'⟩ f r h⟩
noncomputable def AY.yld (a : AE K) : AY K := ⟨tGYield a.te, fun e ns t k => ns.length < 10000000 ∧ a.wp e t fun d t1 => unI d fun i => k.nx e (ns ++ [i]) t1, fun {m B0 B1 H0 H1 D k} c {B e σ H t ns} f r h =>
  ⟨by rw [List.length_map]; exact Nat.lt_of_lt_of_le h.1 (by decide), a.ok r h.2 _ fun v d H2 t2 x2 k2 h2 r2 => by
    obtain ⟨i, rfl, h3⟩ := unI_of h2
    obtain rfl := rp_int.mp r2
    have z := c.nx (f.step r x2) (r.up x2 k2) h3
    rw [List.map_append] at z
    exact z⟩⟩
end
end CG
namespace CG
open PySem PySem.Spec PyProof.Rows L2
section
variable {K : PySem.W.Frag}
theorem RpA.erase {B : Addr → Prop} {H : Hp} : ∀ {ds : List PyData} {xs : List V} {j : Nat}, RpA K B H ds xs → RpA K B H (ds.eraseIdx j) (xs.eraseIdx j)
  | [], xs, j, r => by rw [rpa_nil.mp r]; exact .nil
  | c :: ds, xs, 0, r => by
    obtain ⟨y, w, rfl, h1, h2⟩ := rpa_cons.mp r
    exact h2
  | c :: ds, xs, j + 1, r => by
    obtain ⟨y, w, rfl, h1, h2⟩ := rpa_cons.mp r
    exact .cons h1 (RpA.erase h2)
theorem seqIx_nn {i : Int} {n : Nat} (h0 : 0 ≤ i) (h1 : i < n) : seqIndex? i n = some i.toNat := by
  unfold seqIndex?
  have h : ¬ i < 0 := by omega
  simp only [h, if_false]
  rw [if_pos]
  rw [Bool.and_eq_true, decide_eq_true_eq, decide_eq_true_eq]
  exact ⟨h0, h1⟩
end
end CG
namespace CG
open PySem PySem.Spec PyProof.Rows L2
open PySem.W (dataLe dataLt dataLt_tuple rowLt dataLt_ints EachIs sorted_data AllAlike Sortable alike alike_ints depth_ints dataLe_rows)
section
variable {K : PySem.W.Frag}
/-- only L and the deck have changed -/
structure Off (m : Dck) (L : Addr) (H H1 : Hp) : Prop where
  kp : ∀ a o, a ≠ L → ¬ m.pl a → H a = some o → H1 a = some o
theorem Off.trans {m : Dck} {L : Addr} {H H1 H2 : Hp} (x : Off m L H H1) (y : Off m L H1 H2) : Off m L H H2 := ⟨fun a o h1 h2 h3 => y.kp a o h1 h2 (x.kp a o h1 h2 h3)⟩
theorem Off.of {m : Dck} {L : Addr} {H H1 : Hp} (x : Xt m.pl H H1) : Off m L H H1 := ⟨fun a o _ h2 h3 => x.kp a o h2 h3⟩
end
end CG
namespace CG
open PySem PySem.Spec PyProof.Rows L2
noncomputable def srcs (cs : List Ctr) (is : List Nat) : List Int := is.map fun i => (ctr cs i).s
section
variable {cs : List Ctr} {k : Int} {is r : List Nat} {j x : Nat} {n : Int}
structure SL (cs : List Ctr) (k : Int) (r : List Nat) : Prop where
  ne : r ≠ []
  rt : Rt cs k r
  en : endK cs k r = k
  nd : (srcs cs r).Nodup
/-- a simple loop has at most so many counters as there are kinds -/
theorem SL.len (h : SL cs k r) {m : Nat} (hk : ∀ c ∈ cs, 0 ≤ c.s ∧ c.s < (m : Int)) : r.length ≤ m := by
  have h1 : (srcs cs r).length ≤ ((List.range m).map fun i : Nat => (i : Int)).length := by
    refine List.Nodup.length_le_of_subset h.nd fun x hx => ?_
    obtain ⟨i, hi, rfl⟩ := List.mem_map.mp hx
    obtain ⟨a, b⟩ := hk _ (ctr_mem (h.rt.inC i hi))
    exact List.mem_map.mpr ⟨(ctr cs i).s.toNat, List.mem_range.mpr (by omega), by omega⟩
  simpa [srcs] using h1
theorem SL.hd (h : SL cs k r) : (ctr cs (hd0 r)).s = k := by
  cases r with
  | nil => exact absurd rfl h.ne
  | cons i r => exact h.rt.2.1
end
end CG
namespace CG
open PySem PySem.Spec PyProof.Rows L2
section
variable {K : PySem.W.Frag}
noncomputable def zipD (xs ys : List PyData) : List PyData := (xs.zip ys).map fun p => .tuple [p.1, p.2]
noncomputable def unTT : List PyData → (List PyData → List PyData → Prop) → Prop
  | [.tuple xs, .tuple ys], k => k xs ys
  | _, _ => False
theorem zipD_get {xs ys : List PyData} {i : Nat} {d : PyData} (h : (zipD xs ys)[i]? = some d) : ∃ x y, xs[i]? = some x ∧ ys[i]? = some y ∧ d = .tuple [x, y] := by
  unfold zipD at h
  rw [List.getElem?_map] at h
  cases q : (xs.zip ys)[i]? with
  | none => rw [q] at h; cases h
  | some p =>
    rw [q] at h
    cases h
    obtain ⟨a, b⟩ := List.getElem?_zip_eq_some.mp q
    exact ⟨_, _, a, b, rfl⟩
theorem zipD_length {xs ys : List PyData} : (zipD xs ys).length = min xs.length ys.length := by unfold zipD; rw [List.length_map, List.length_zip]
theorem sq_zipT {B : Addr → Prop} {H : Hp} {a b : Addr} {xs ys : List V} {ds es : List PyData} (na : ¬ B a ∨ KT K a xs) (s : SqT K H a xs) (t : RpA K B H ds xs) (nb : ¬ B b ∨ KT K b ys) (s2 : SqT K H b ys) (t2 : RpA K B H es ys) : Sq K (RZ.ItzT K a b) B H (zipD ds es) := by
  have l1 := t.length
  have l2 := t2.length
  refine ⟨fun i H' B' hi g x => ?_, fun H' B' g x => ⟨xs, ys, sqT_on na s g x, sqT_on nb s2 g x, by rw [zipD_length]; omega⟩, fun i d y H' H3 B' hd g x z => ?_⟩
  · rw [zipD_length] at hi
    obtain ⟨y, hy, _⟩ := t.get (i := i) (d := ds[i]) (List.getElem?_eq_getElem (by omega))
    obtain ⟨y2, hy2, _⟩ := t2.get (i := i) (d := es[i]) (List.getElem?_eq_getElem (by omega))
    exact ⟨xs, ys, y, y2, sqT_on na s g x, sqT_on nb s2 g x, hy, hy2⟩
  · obtain ⟨T, x', y', rfl, nT, rfl, z1, z2⟩ := z
    obtain ⟨w, w2, hw, hw2, rfl⟩ := zipD_get hd
    obtain ⟨u, hu, ru⟩ := t.get hw
    obtain ⟨u2, hu2, ru2⟩ := t2.get hw2
    have e := z1 xs (sqT_on na s g x)
    rw [hu] at e
    cases e
    have e := z2 ys (sqT_on nb s2 g x)
    rw [hu2] at e
    cases e
    have s3 : Same H' (upd H' T (.tup [x', y'])) := same_new nT
    exact ⟨s3, rp_tup.mpr ⟨T, _, rfl, .inl (x.al.new nT), SqT.of upd_same, .cons (((Rp.grow g _ _ ru).up x).up (Xt.of x.al s3)) (.cons (((Rp.grow g _ _ ru2).up x).up (Xt.of x.al s3)) .nil)⟩⟩
noncomputable def AI.zip (a : AA K) : AI K := ⟨RZ.iZipA K a.ta, fun e t k => a.wp e t fun ds t1 => unTT ds fun xs ys => k (zipD xs ys) t1, fun {m B0 B e σ H t k} r h R q =>
  a.ok r h _ fun vs ds H1 t1 x1 k1 h1 r1 => by
    unfold unTT at h1
    split at h1
    · obtain ⟨v, w, rfl, rv, rw⟩ := rpa_cons.mp r1
      obtain ⟨v2, w2, rfl, rv2, rw2⟩ := rpa_cons.mp rw
      obtain rfl := rpa_nil.mp rw2
      obtain ⟨a, xs, rfl, na, s, t⟩ := rp_tup.mp rv
      obtain ⟨b, ys, rfl, nb, s2, t2⟩ := rp_tup.mp rv2
      exact ⟨a, b, xs, ys, rfl, .inr ⟨s, s2, q _ _ H1 t1 x1 k1 h1 (sq_zipT na s t nb s2 t2)⟩⟩
    · exact h1.elim⟩
end
section
variable {K : PySem.W.Frag}
noncomputable def AF.rep (a : AF K) (b : AE K) : AF K := ⟨tOp (rMulU K) a.te b.te, fun e t k => a.wp e t fun ds t1 => b.wp e t1 fun y t2 => unI y fun n => (0 ≤ n ∧ n ≤ 1000 ∧ ds.length ≤ 1000) ∧ k (List.replicate n.toNat ds).flatten t2, fun {m B0 B e σ H t k} r h Q q => by
  refine a.ok r h _ fun L ds vs H2 t2 nL x2 k2 h2 hL ra => ?_
  have s2 := r.up x2 k2
  refine b.ok s2 h2 _ fun w y H3 t3 x3 k3 h3 r3 => ?_
  obtain ⟨n, rfl, ⟨n0, n1, nl⟩, h3⟩ := unI_of h3
  have nP : ¬ m.pl L := fun z => r.al.new nL (r.pb L z)
  have ra2 : RpA K B H3 ds vs := (RpA.less bp_up _ _ ra).up (s2.wd x3)
  refine .inr (.inr ⟨L, n, vs, rfl, rp_int.mp r3, x3.kp _ _ nP hL, by omega, by omega, ?_, fun p np => ?_⟩)
  · rw [← ra.length]
    exact Nat.le_trans (Nat.mul_le_mul nl (show n.toNat ≤ 1000 by omega)) (by decide)
  · have s := same_new (o := .lst (List.replicate n.toNat vs).flatten) np
    have s3 := s2.up x3 k3
    have np0 : H p = none := none_back r.ok (x2.trans x3) np
    exact q p _ _ _ t3 np0 ((x2.trans x3).trans (m.xs k3 s)) (m.same k3 s) h3 upd_same ((RpA.grow (gw_new np) _ _ (rpa_flat ra2 _)).up ⟨fun a o _ e => s a o e, al_new s3.al⟩)⟩
end
end CG
namespace CG
open PySem PySem.Spec PyProof.Rows L2
noncomputable abbrev Num := Option Int
noncomputable abbrev Vec := Int → Num
noncomputable def nle (a b : Num) : Prop := ∀ y, b = some y → ∃ x, a = some x ∧ x ≤ y
noncomputable def vle (x y : Vec) : Prop := ∀ j, nle (x j) (y j)
theorem nle_refl (a : Num) : nle a a := fun y h => ⟨y, h, Int.le_refl _⟩
theorem nle_trans {a b c : Num} (h : nle a b) (k : nle b c) : nle a c := fun y hy => by
  obtain ⟨x, hx, l⟩ := k y hy
  obtain ⟨w, hw, l2⟩ := h x hx
  exact ⟨w, hw, by omega⟩
theorem vle_refl (x : Vec) : vle x x := fun j => nle_refl _
theorem vle_trans {x y z : Vec} (h : vle x y) (k : vle y z) : vle x z := fun j => nle_trans (h j) (k j)
noncomputable def s0 (k a : Int) : Vec := fun j => if j = k then some a else some 0
end CG
namespace CG
open PySem PySem.Spec PyProof.Rows L2
noncomputable def Lead (cs : List Ctr) (k t : Int) : Prop := ∃ r, Rt cs k r ∧ endK cs k r = t
/-- the least that a counter wants -/
noncomputable def lbf (c : Ctr) (w : Int) : Int := c.g * ((w + c.e - 1) / c.e)
theorem lbf_iff {c : Ctr} {n : Int} (hc : c.Ok n) {w x : Int} : lbf c w ≤ x ↔ w ≤ x / c.g * c.e := by
  have g0 := hc.g0
  have e0 := hc.e0
  unfold lbf
  constructor
  · intro h
    have h1 : (w + c.e - 1) / c.e ≤ x / c.g := (Int.le_ediv_iff_mul_le (by omega)).mpr (by rw [Int.mul_comm]; exact h)
    have h2 : w ≤ (w + c.e - 1) / c.e * c.e := by
      have a := Int.emod_add_mul_ediv (w + c.e - 1) c.e
      have b := Int.emod_lt_of_pos (w + c.e - 1) (show 0 < c.e by omega)
      rw [Int.mul_comm] at a
      omega
    exact Int.le_trans h2 (Int.mul_le_mul_of_nonneg_right h1 (by omega))
  · intro h
    have h1 : (w + c.e - 1) / c.e ≤ x / c.g := by
      have a : w + c.e - 1 < (x / c.g + 1) * c.e := by rw [Int.add_mul, Int.one_mul]; omega
      have := Int.ediv_lt_of_lt_mul (show 0 < c.e by omega) a
      omega
    have h2 : x / c.g * c.g ≤ x := Int.ediv_mul_le x (by omega)
    have h3 := Int.mul_le_mul_of_nonneg_right h1 (show 0 ≤ c.g by omega)
    rw [Int.mul_comm]
    omega
noncomputable def nmin : Num → Num → Num
  | none, b => b
  | a, none => a
  | some a, some b => some (if b < a then b else a)
theorem nmin_l (a b : Num) : nle (nmin a b) a := fun y h => by
  subst h
  cases b with
  | none => exact ⟨y, rfl, Int.le_refl _⟩
  | some b => exact ⟨_, rfl, by split <;> omega⟩
theorem nmin_r (a b : Num) : nle (nmin a b) b := fun y h => by
  subst h
  cases a with
  | none => exact ⟨y, rfl, Int.le_refl _⟩
  | some a => exact ⟨_, rfl, by split <;> omega⟩
noncomputable def relN (c : Ctr) (u y : Vec) : Vec := fun j => if j = c.s then nmin (y j) ((u c.t).map (lbf c)) else y j
noncomputable def foldN (cs : List Ctr) (u y : Vec) : Vec := cs.foldl (fun y c => relN c u y) y
theorem relN_le {c : Ctr} {u y : Vec} : vle (relN c u y) y := fun j => by
  unfold relN
  split
  · exact nmin_l _ _
  · exact nle_refl _
theorem foldN_le : ∀ {cs : List Ctr} {u y : Vec}, vle (foldN cs u y) y
  | [], _, _ => vle_refl _
  | c :: cs, u, y => vle_trans (foldN_le (cs := cs)) relN_le
theorem foldN_has : ∀ {cs : List Ctr} {u y : Vec} {c : Ctr}, c ∈ cs → nle (foldN cs u y c.s) ((u c.t).map (lbf c))
  | c :: cs, u, y, d, h => by
    rcases List.mem_cons.mp h with rfl | h
    · refine nle_trans (foldN_le (cs := cs) _) ?_
      show nle (relN d u y d.s) _
      unfold relN
      rw [if_pos rfl]
      exact nmin_r _ _
    · exact foldN_has (cs := cs) h
open Classical in
noncomputable def u0 (cs : List Ctr) (st : Vec) (t w : Int) : Vec := fun j => nmin (if j = t then some w else none) (if Lead cs j t then st j else none)
noncomputable def us (cs : List Ctr) (st : Vec) (t w : Int) : Nat → Vec
  | 0 => u0 cs st t w
  | i + 1 => foldN cs (us cs st t w i) (us cs st t w i)
end CG
namespace CG
open PySem PySem.Spec PyProof.Rows L2
section
variable {cs : List Ctr} {m : Nat} {n : Int} {st : Vec}
noncomputable def Enough (a : Int) (x : Num) : Prop := ∃ v, x = some v ∧ v ≤ a
noncomputable def rws (cs : List Ctr) (u : Vec) : Nat → Vec
  | 0 => u
  | i + 1 => foldN cs (rws cs u i) (rws cs u i)
/-- no counter leads to what is enough earlier -/
theorem rws_back {u : Vec} {a : Int} {i : Nat} {c : Ctr} (hok : ∀ c ∈ cs, c.Ok n) (hc : c ∈ cs) (h : Enough (a / c.g * c.e) (rws cs u i c.t)) : Enough a (rws cs u (i + 1) c.s) := by
  obtain ⟨w, hw, l⟩ := h
  obtain ⟨x, hx, l2⟩ := foldN_has (cs := cs) (u := rws cs u i) (y := rws cs u i) hc (lbf c w) (by rw [hw]; rfl)
  exact ⟨x, hx, Int.le_trans l2 ((lbf_iff (hok c hc)).mpr l)⟩
/-- exactly so many counters are wanted -/
structure At (cs : List Ctr) (u : Vec) (a k : Int) (i : Nat) : Prop where
  yes : Enough a (rws cs u i k)
  no : ∀ j, j < i → ¬ Enough a (rws cs u j k)
theorem At.step {u : Vec} {a k : Int} {i : Nat} {c : Ctr} (hok : ∀ c ∈ cs, c.Ok n) (h : At cs u a k (i + 1)) (hc : c ∈ cs) (hk : c.s = k) (he : Enough (a / c.g * c.e) (rws cs u i c.t)) : At cs u (a / c.g * c.e) c.t i :=
  ⟨he, fun j hj hn => h.no (j + 1) (by omega) (by rw [← hk]; exact rws_back hok hc hn)⟩
end
end CG
namespace CG
open PySem PySem.Spec PyProof.Rows L2
theorem FnG.or {pr : Program} {wo : World} {K : PySem.W.Frag} {mg : Str → Option Value} {ba : Heap} {cx : CXT} {k : Nat} {f : Addr} {fd : FuncData} {ps : List Str} {sp sp' : Sp} (G : FnG pr wo K mg ba cx k f fd ps sp) (G' : FnG pr wo K mg ba cx k f fd ps sp') :
    FnG pr wo K mg ba cx k f fd ps (fun vs H Q E => sp vs H Q E ∨ sp' vs H Q E) :=
  ⟨fun vs H Q E h => h.elim (G.len vs H Q E) (G'.len vs H Q E), fun A out s H ar us vs Q E hg hr he hb hv hs => hs.elim (G.run A out s H ar us vs Q E hg hr he hb hv) (G'.run A out s H ar us vs Q E hg hr he hb hv)⟩
end CG
namespace CG
open PySem PySem.Spec PyProof.Rows L2
section
variable {K : PySem.W.Frag} {m : Dck} {B0 : Addr → Prop} {H0 : Hp} {fl : Str} {C : Addr} {W : WX} {kx : PyData → Prop}
structure AX (K : PySem.W.Frag) (m : Dck) (B0 : Addr → Prop) (H0 : Hp) where
  ts : TS
  wp : En → Tq → Kn → Prop
  ok : ∀ {B1 : Addr → Prop} {H1 : Hp} {Dd : Ends} {k : Kn}, Cn K m B0 H0 B1 H1 k Dd → ∀ {B : Addr → Prop} {e : En} {σ : L2.St} {H : Hp} {t : Tq}, Fr m B0 H0 B1 H1 B H → Rep K m B0 B e σ H t → wp e t k → ts Dd σ H
noncomputable def AX.of (a : AS K) : AX K m B0 H0 := ⟨a.ts, a.wp, fun {B1 H1 Dd k} c {B e σ H t} f r h => a.ok c f r h⟩
noncomputable def AX.seq (a b : AX K m B0 H0) : AX K m B0 H0 := ⟨tSeq a.ts b.ts, fun e t k => a.wp e t { k with nx := fun e' t' => b.wp e' t' k }, fun {B1 H1 Dd k} c {B e σ H t} f r h =>
  a.ok (Dd := { Dd with nx := b.ts Dd }) (k := { k with nx := fun e' t' => b.wp e' t' k }) ⟨fun f' r' h' => b.ok c f' r' h', c.bk, c.ct, c.rt⟩ f r h⟩
end
end CG
namespace CG
open PySem PySem.Spec PyProof.Rows L2
section
variable {K : PySem.W.Frag}
noncomputable def AG.lst (g : AGs K) : AG K := ⟨gLst K g.n g.tg, g.sl, fun d e k => unL d fun ds => g.wp ds e k, fun {m B0 B e σ H t k d v} r rv h Q q => by
  obtain ⟨ds, rfl, h⟩ := unL_of h
  obtain ⟨a, xs, rfl, na, s, t⟩ := rp_lst.mp rv
  obtain ⟨hn, hq⟩ := g.ok r t h
  exact ⟨a, xs, rfl, SqL.of s, by rw [← t.length, hn], hq Q q⟩⟩
end
end CG
namespace CG
open PySem PySem.Spec PyProof.Rows L2
/-- what is passed for apart -/
noncomputable def KwB (kws : List (Str × Value)) (bv : V) : Prop := (kws = [] ∧ bv = .bl false) ∨ ∃ u, kws = [(("apart" : Str), u)] ∧ RelV bv u
structure FnV (pr : Program) (wo : World) (K : PySem.W.Frag) (mg : Str → Option Value) (ba : Heap) (cx : CXT) (k : Nat) (f : Addr) (sp : Sp) : Prop where
  run : ∀ (A : Around) (out : List Env) (s : Shared) (H : Hp) (us : List Value) (vs : List V) (kws : List (Str × Value)) (bv : V) (Q : VK) (E : XK), A.guards = some [] → Room k A → Env0 pr wo K mg ba A out s H → Vals vs us → KwB kws bv → sp (bv :: vs) H Q E →
    codeAny (model pr wo) A (.call (.ref f) ⟨us, kws⟩) (CR cx out pr wo H s Q E) s
end CG
namespace CG
open PySem PySem.Spec PyProof.Rows L2
section
variable {X : Cx} {tg : Expr}
noncomputable def iSeq (K : PySem.W.Frag) (tl : TE) : TI := fun σ H R => tl σ H fun x H1 => ∃ a, x = .ref a ∧ (((∃ xs, SqL K H1 a xs) ∧ R (Itl K a) H1) ∨ ((∃ xs, SqT K H1 a xs) ∧ R (Itt K a) H1))
end
section
variable {K : PySem.W.Frag}
noncomputable def unSq : PyData → (List PyData → Prop) → Prop
  | .tuple ds, k => k ds
  | .list ds, k => k ds
  | _, _ => False
noncomputable def AI.seq (a : AE K) : AI K := ⟨iSeq K a.te, fun e t k => a.wp e t fun d t1 => unSq d fun ds => k ds t1, fun {m B0 B e σ H t k} r h R q =>
  a.ok r h _ fun v d H1 t1 x1 k1 h1 r1 => by
    cases d with
    | tuple ds =>
      obtain ⟨a, xs, rfl, na, s, t⟩ := rp_tup.mp r1
      exact ⟨a, rfl, .inr ⟨⟨_, s⟩, q _ ds H1 t1 x1 k1 h1 (sq_tup na s t)⟩⟩
    | list ds =>
      obtain ⟨a, xs, rfl, na, s, t⟩ := rp_lst.mp r1
      exact ⟨a, rfl, .inl ⟨⟨_, SqL.of s⟩, q _ ds H1 t1 x1 k1 h1 (sq_lst na s t)⟩⟩
    | _ => exact h1.elim⟩
end
end CG
namespace CG
open PySem PySem.Spec PyProof.Rows L2
/-- the counters with other names for the kinds -/
noncomputable def rnC (νs : List Int) (c : Ctr) : Ctr := ⟨νs.getD c.s.toNat 0, νs.getD c.t.toNat 0, c.g, c.e⟩
noncomputable def nf (νs : List Int) (j : Int) : Int := νs.getD j.toNat 0
structure Names (n : Int) (νs : List Int) : Prop where
  ln : (νs.length : Int) = n
  nd : νs.Nodup
  lo : ∀ x ∈ νs, 0 ≤ x
  hi : ∀ x ∈ νs, x < n
theorem nf_at {νs : List Int} {s : Int} (s0 : 0 ≤ s) (s1 : s < (νs.length : Int)) : atI (νs.map PyData.int) s = some (.int (nf νs s)) ∧ nf νs s ∈ νs := by
  obtain ⟨j, rfl⟩ : ∃ j : Nat, s = j := ⟨s.toNat, by omega⟩
  have jl : j < νs.length := by omega
  have e : nf νs (j : Int) = νs[j] := by
    unfold nf
    rw [Int.toNat_natCast, List.getD_eq_getElem?_getD, List.getElem?_eq_getElem jl]; rfl
  rw [e]
  refine ⟨?_, List.getElem_mem jl⟩
  rw [atI_nn, List.getElem?_map, List.getElem?_eq_getElem jl]
  rfl
section
variable {n : Int} {νs : List Int} {cs : List Ctr}
theorem nf_ne (h : Names n νs) {s t : Int} (s0 : 0 ≤ s) (s1 : s < n) (t0 : 0 ≤ t) (t1 : t < n) (ne : s ≠ t) : nf νs s ≠ nf νs t := by
  have l := h.ln
  have a : s.toNat < νs.length := by omega
  have b : t.toNat < νs.length := by omega
  unfold nf
  rw [List.getD_eq_getElem?_getD, List.getD_eq_getElem?_getD, List.getElem?_eq_getElem a, List.getElem?_eq_getElem b]
  intro e
  have e2 : νs[s.toNat] = νs[t.toNat] := e
  have pw := List.pairwise_iff_getElem.mp h.nd
  by_cases c : s < t
  · exact pw s.toNat t.toNat a b (by omega) e2
  · exact pw t.toNat s.toNat b a (by omega) e2.symm
end
end CG
namespace CG
open PySem PySem.Spec PyProof.Rows L2
section
variable {K : PySem.W.Frag}
theorem Rep.other {m : Dck} {B0 B : Addr → Prop} {e : En} {σ : L2.St} {H : Hp} {t : Tq} {p : Addr} {o : List V} (r : Rep K m B0 B e σ H t) (b : B p) (np : ¬ m.pl p) (h : ∀ (i : Nat) (ds : List PyData), e[i]? = some (.own ds) → σ[i]? ≠ some (some (.ref p))) :
    Rep K m B0 B e σ (upd H p (.lst o)) t := by
  have al : Al B (upd H p (.lst o)) := fun a h => by
    by_cases w : a = p
    · rw [w, upd_same]; first | exact trivial | simp
    · rw [upd_ne w]
      exact r.al a h
  have x : Xt B H (upd H p (.lst o)) := ⟨fun a o nb z => by
    rw [upd_ne (fun w : a = p => nb (w ▸ b))]
    exact z, al⟩
  refine ⟨al, r.pb, r.b0, m.putV r.ok np (r.al p b), r.ln, fun j => ?_, r.ow⟩
  · have s := r.sl j
    cases q : e[j]? with
    | none => trivial
    | some y =>
      rw [q] at s
      cases y with
      | un => trivial
      | deck M => exact s
      | ptr _ _ => exact s
      | fn _ _ _ _ _ => exact ⟨⟨s.1.1, x.kp _ _ (fun b => s.1.2.2 (s.1.2.1 ▸ r.al _ b)) s.1.2.1, s.1.2.2⟩, s.2.up x⟩
      | dat d =>
        obtain ⟨v, e1, r1⟩ := s
        exact ⟨v, e1, r1.up x⟩
      | own ds =>
        obtain ⟨u, vs, e1, h1, h2, h3, h4, h5⟩ := s
        have ne : u ≠ p := fun z => h j ds q (by rw [e1, z])
        exact ⟨u, vs, e1, h1, h2, h3, by rw [upd_ne ne]; exact h4, h5.up x⟩
end
end CG
namespace CG
open PySem PySem.Spec PyProof.Rows L2
theorem pe_bmK {X : Cx} {K : PySem.W.Frag} {T id : String} {name : Str} {r : V → List V → Hp → VK → Prop} {o e : Expr} {es : List Expr} {to : TE} {t : TA} {apos cpos : Pos} (pa : PlainAttrs T) (slot : Slot T name id) (hty : typeOf (.builtin id) = pure (.type "method_descriptor")) (hm : MtR X id r) (ho : PE X o to) (ha : PA X (e :: es) t)
    (hK : X.K = K := by rfl) (hbase : attributeBase o name X.env (eval o X.env) = eval o X.env := by rfl)
    (hfew : ((backTo cpos (starEach (e :: es) X.env)).all (fun x => !x.1) && (backToKw cpos (keywordEach [] X.env)).all (fun x => x.1.isSome)
      && decide ((e :: es).length + ([] : List Keyword).length + (if ([] : List Keyword).isEmpty then 0 else 1) < 30)) = true := by rfl)
    (hline : (apos.endLine == cpos.line) = true := by rfl) (hs : starEach (e :: es) X.env = (false, eval e X.env) :: starEach es X.env := by rfl) (hplain : (backTo cpos (starEach es X.env)).any (·.1) = false := by rfl) :
    PE X (.Call (.Attribute o name apos) (e :: es) [] cpos) (tBM K T r to t) := hK ▸ pe_bm pa slot hty hm ho ha hbase hfew hline hs hplain
theorem perm_era {α : Type} : ∀ {l : List α} {j : Nat} {x : α}, l[j]? = some x → (x :: l.eraseIdx j).Perm l
  | [], j, x, h => by simp at h
  | a :: l, 0, x, h => by
    simp only [List.getElem?_cons_zero, Option.some.injEq] at h
    subst h
    exact .refl _
  | a :: l, j + 1, x, h => by
    rw [List.getElem?_cons_succ] at h
    exact (List.Perm.swap a x _).trans ((perm_era h).cons a)
theorem era_map {α β : Type} {g : α → β} : ∀ {l : List α} {j : Nat}, (l.map g).eraseIdx j = (l.eraseIdx j).map g
  | [], j => rfl
  | a :: l, 0 => rfl
  | a :: l, j + 1 => by
    show g a :: (l.map g).eraseIdx j = g a :: (l.eraseIdx j).map g
    rw [era_map]
theorem perm_pop {ls νs : List Int} {j : Nat} {x : Int} (h : ls[j]? = some x) : ((νs ++ [x]) ++ ls.eraseIdx j).Perm (νs ++ ls) := by
  rw [List.append_assoc]
  exact List.Perm.append_left νs (perm_era h)
theorem rng_ints {n : Int} : rngD 0 n = ((List.range n.toNat).map fun i : Nat => (i : Int)).map PyData.int := by
  rw [List.map_map]
  show (List.range (n - 0).toNat).map _ = _
  rw [Int.sub_zero]
  refine List.map_congr_left fun i _ => ?_
  show PyData.int (0 + (i : Int)) = _
  rw [Int.zero_add]
  rfl
theorem names_of {n : Int} {νs : List Int} (n0 : 0 ≤ n) (h : νs.Perm ((List.range n.toNat).map fun i : Nat => (i : Int))) : Names n νs := by
  have nd : ((List.range n.toNat).map fun i : Nat => (i : Int)).Nodup := by
    refine List.Pairwise.imp (R := (· < ·)) (fun h => by omega) ?_
    rw [List.pairwise_map]
    exact List.pairwise_lt_range.imp fun h => by omega
  refine ⟨?_, (h.nodup_iff).mpr nd, fun x hx => ?_, fun x hx => ?_⟩
  · have := h.length_eq
    rw [List.length_map, List.length_range] at this
    omega
  · obtain ⟨i, hi, rfl⟩ := List.mem_map.mp (h.mem_iff.mp hx)
    omega
  · obtain ⟨i, hi, rfl⟩ := List.mem_map.mp (h.mem_iff.mp hx)
    have := List.mem_range.mp hi
    omega
end CG
namespace CG
open PySem PySem.Spec PyProof.Rows L2
section
variable {K : PySem.W.Frag}
noncomputable def unS : PyData → (Str → Prop) → Prop
  | .str z, k => k z
  | _, _ => False
theorem unS_of {d : PyData} {k : Str → Prop} (h : unS d k) : ∃ b, d = .str b ∧ k b := by
  cases d with
  | str b => exact ⟨b, rfl, h⟩
  | _ => exact h.elim
/-- how long texts may be here -/
noncomputable def TxL : Nat := 1000000
structure AJ (K : PySem.W.Frag) where
  ts : List TE
  wp : En → Tq → Str → (Str → Tq → Prop) → Prop
  ok : ∀ {m : Dck} {B0 B : Addr → Prop} {e : En} {σ : L2.St} {H : Hp} {t : Tq} {acc : Str} {k : Str → Tq → Prop}, Rep K m B0 B e σ H t → wp e t acc k → ∀ Q : Str → Hp → Prop,
    (∀ out H2 t', Xt m.pl H H2 → m.ok H2 t' → k out t' → Q out H2) → tJs ts acc σ H Q
noncomputable def AJ.nil (K : PySem.W.Frag) : AJ K := ⟨[], fun _ t acc k => k acc t, fun {m B0 B e σ H t acc k} r h Q q => q _ H t (Xt.refl (m.al r.ok)) r.ok h⟩
noncomputable def AJ.cons (a : AE K) (b : AJ K) : AJ K := ⟨a.te :: b.ts, fun e t acc k => a.wp e t fun d t1 => unS d fun y => (acc ++ y).length ≤ TxL ∧ b.wp e t1 (acc ++ y) k, fun {m B0 B e σ H t acc k} r h Q q =>
  a.ok r h _ fun v d H1 t1 x1 k1 h1 r1 => by
    obtain ⟨y, rfl, hl, h2⟩ := unS_of h1
    exact ⟨y, rp_str.mp r1, Nat.le_trans hl (by decide), b.ok (r.up x1 k1) h2 _ fun out H2 t2 x2 k2 h3 => q out H2 t2 (x1.trans x2) k2 h3⟩⟩
end
end CG
namespace CG
open PySem PySem.Spec PyProof.Rows L2
section
variable {K : PySem.W.Frag} {H H1 : Hp} {B : Addr → Prop}
mutual
/-- v is the data d, of tuples only -/
noncomputable def Rn (K : PySem.W.Frag) (H : Hp) : PyData → V → Prop
  | .none, v => v = .non
  | .bool b, v => v = .bl b
  | .int i, v => v = .int i
  | .str x, v => v = .str x
  | .list _, _ => False
  | .tuple ds, v => ∃ a xs, v = .ref a ∧ SqT K H a xs ∧ RnA K H ds xs
  | .dict _, _ => False
noncomputable def RnA (K : PySem.W.Frag) (H : Hp) : List PyData → List V → Prop
  | [], xs => xs = []
  | d :: ds, xs => ∃ x r, xs = x :: r ∧ Rn K H d x ∧ RnA K H ds r
end
mutual
/-- data of tuples only -/
noncomputable def flT : PyData → Bool
  | .list _ => false
  | .dict _ => false
  | .tuple ds => flA ds
  | _ => true
noncomputable def flA : List PyData → Bool
  | [] => true
  | d :: ds => flT d && flA ds
end
theorem rn_tup {ds : List PyData} {v : V} : Rn K H (.tuple ds) v ↔ ∃ a xs, v = .ref a ∧ SqT K H a xs ∧ RnA K H ds xs := by simp only [Rn]
theorem rna_cons {d : PyData} {ds : List PyData} {xs : List V} : RnA K H (d :: ds) xs ↔ ∃ x r, xs = x :: r ∧ Rn K H d x ∧ RnA K H ds r := by simp only [RnA]
theorem rna_nil {xs : List V} : RnA K H [] xs ↔ xs = [] := by simp only [RnA]
mutual
theorem Rn.keep (h : ∀ a xs, Rd H a (.tup xs) → Rd H1 a (.tup xs)) : ∀ (d : PyData) (v : V), Rn K H d v → Rn K H1 d v
  | .none, v, z => by simp only [Rn] at z ⊢; exact z
  | .bool b, v, z => by simp only [Rn] at z ⊢; exact z
  | .int i, v, z => by simp only [Rn] at z ⊢; exact z
  | .str s, v, z => by simp only [Rn] at z ⊢; exact z
  | .list ds, v, z => by simp only [Rn] at z
  | .dict ds, v, z => by simp only [Rn] at z
  | .tuple ds, v, z => by
    obtain ⟨a, xs, e, s, t⟩ := rn_tup.mp z
    exact rn_tup.mpr ⟨a, xs, e, s.elim (fun s => .inl (h a xs s)) .inr, RnA.keep h ds xs t⟩
theorem RnA.keep (h : ∀ a xs, Rd H a (.tup xs) → Rd H1 a (.tup xs)) : ∀ (ds : List PyData) (xs : List V), RnA K H ds xs → RnA K H1 ds xs
  | [], xs, z => by rw [rna_nil] at z ⊢; exact z
  | d :: ds, xs, z => by
    obtain ⟨x, r, e, h1, h2⟩ := rna_cons.mp z
    exact rna_cons.mpr ⟨x, r, e, Rn.keep h d x h1, RnA.keep h ds r h2⟩
end
mutual
theorem Rn.rp (al : Al B H) : ∀ (d : PyData) (v : V), Rn K H d v → Rp K B H d v
  | .none, v, z => by simp only [Rn] at z; exact rp_non.mpr z
  | .bool b, v, z => by simp only [Rn] at z; exact rp_bl.mpr z
  | .int i, v, z => by simp only [Rn] at z; exact rp_int.mpr z
  | .str s, v, z => by simp only [Rn] at z; exact rp_str.mpr z
  | .list ds, v, z => by simp only [Rn] at z
  | .dict ds, v, z => by simp only [Rn] at z
  | .tuple ds, v, z => by
    obtain ⟨a, xs, e, s, t⟩ := rn_tup.mp z
    refine rp_tup.mpr ⟨a, xs, e, ?_, s, RnA.rp al ds xs t⟩
    rcases s with s | s
    · refine .inl fun b => ?_
      have lv := al a b
      rcases s with s | ⟨o, s⟩
      · rw [s] at lv; exact lv
      · rw [s] at lv; exact lv
    · exact .inr s
theorem RnA.rp (al : Al B H) : ∀ (ds : List PyData) (xs : List V), RnA K H ds xs → RpA K B H ds xs
  | [], xs, z => rpa_nil.mpr (rna_nil.mp z)
  | d :: ds, xs, z => by
    obtain ⟨x, r, e, h1, h2⟩ := rna_cons.mp z
    exact rpa_cons.mpr ⟨x, r, e, Rn.rp al d x h1, RnA.rp al ds r h2⟩
end
mutual
theorem Rn.of : ∀ (d : PyData) (v : V), flT d = true → Rp K B H d v → Rn K H d v
  | .none, v, _, z => by simp only [Rn]; exact rp_non.mp z
  | .bool b, v, _, z => by simp only [Rn]; exact rp_bl.mp z
  | .int i, v, _, z => by simp only [Rn]; exact rp_int.mp z
  | .str s, v, _, z => by simp only [Rn]; exact rp_str.mp z
  | .list ds, v, f, z => by simp only [flT, Bool.false_eq_true] at f
  | .dict ds, v, f, z => by simp only [flT, Bool.false_eq_true] at f
  | .tuple ds, v, f, z => by
    obtain ⟨a, xs, e, nb, s, t⟩ := rp_tup.mp z
    simp only [flT] at f
    exact rn_tup.mpr ⟨a, xs, e, s, RnA.of ds xs f t⟩
theorem RnA.of : ∀ (ds : List PyData) (xs : List V), flA ds = true → RpA K B H ds xs → RnA K H ds xs
  | [], xs, _, z => rna_nil.mpr (rpa_nil.mp z)
  | d :: ds, xs, f, z => by
    obtain ⟨x, r, e, h1, h2⟩ := rpa_cons.mp z
    simp only [flA, Bool.and_eq_true] at f
    exact rna_cons.mpr ⟨x, r, e, Rn.of d x f.1 h1, RnA.of ds r f.2 h2⟩
end
/-- the attributes: those of nms that are set -/
structure FsOk (K : PySem.W.Frag) (H : Hp) (o : Str → Option PyData) (nms : List Str) (fs : List (Str × V)) : Prop where
  no : ∀ f, o f = none → fs.lookup f = none
  yes : ∀ f d, o f = some d → ∃ v, fs.lookup f = some v ∧ Rn K H d v
  sub : ∀ f, f ∉ nms → o f = none
  nd : (fs.map (·.1)).Nodup
  ks : ∀ f ∈ fs.map (·.1), f ∈ nms
theorem nodup_le : ∀ {ks ns : List Str}, ks.Nodup → (∀ k ∈ ks, k ∈ ns) → ks.length ≤ ns.length
  | [], _, _, _ => Nat.zero_le _
  | k :: ks, ns, nd, h => by
    have hk := h k List.mem_cons_self
    obtain ⟨n1, n2⟩ := List.nodup_cons.mp nd
    have := nodup_le (ks := ks) (ns := ns.erase k) n2 fun x hx => by
      have ne : x ≠ k := fun e => n1 (e ▸ hx)
      exact (List.mem_erase_of_ne ne).mpr (h x (List.mem_cons_of_mem _ hx))
    rw [List.length_erase_of_mem hk] at this
    have := List.length_pos_of_mem hk
    simp only [List.length_cons]
    omega
theorem FsOk.len {o : Str → Option PyData} {nms : List Str} {fs : List (Str × V)} (h : FsOk K H o nms fs) : fs.length ≤ nms.length := by
  have := nodup_le h.nd h.ks
  rw [List.length_map] at this
  exact this
noncomputable def putO (o : Str → Option PyData) (f : Str) (d : PyData) : Str → Option PyData := fun g => if g = f then some d else o g
theorem putF_keys {f : Str} {v : V} : ∀ {fs : List (Str × V)}, ∀ g ∈ (putF f v fs).map (·.1), g ∈ fs.map (·.1) ∨ g = f
  | [], g, h => .inr (by simpa [putF] using h)
  | (k, x) :: r, g, h => by
    unfold putF at h
    split at h
    · exact .inl h
    · simp only [List.map_cons, List.mem_cons] at h ⊢
      rcases h with h | h
      · exact .inl (.inl h)
      · exact (putF_keys g h).elim (fun z => .inl (.inr z)) .inr
theorem putF_nodup {f : Str} {v : V} : ∀ {fs : List (Str × V)}, (fs.map (·.1)).Nodup → ((putF f v fs).map (·.1)).Nodup
  | [], _ => by simp [putF]
  | (k, x) :: r, h => by
    unfold putF
    split
    · exact h
    · rename_i ne
      simp only [List.map_cons, List.nodup_cons] at h ⊢
      refine ⟨fun z => ?_, putF_nodup h.2⟩
      rcases putF_keys k z with w | w
      · exact h.1 w
      · exact ne w
theorem FsOk.put {o : Str → Option PyData} {nms : List Str} {fs : List (Str × V)} {f : Str} {d : PyData} {v : V} (h : FsOk K H o nms fs) (hf : f ∈ nms) (r : Rn K H d v) : FsOk K H (putO o f d) nms (putF f v fs) := by
  refine ⟨fun g e => ?_, fun g d' e => ?_, fun g ng => ?_, putF_nodup h.nd, fun g hg => (putF_keys g hg).elim (h.ks g) fun e => e ▸ hf⟩
  · unfold putO at e
    rw [lookup_putF]
    split at e
    · cases e
    · rename_i ne
      rw [if_neg ne]
      exact h.no g e
  · unfold putO at e
    rw [lookup_putF]
    split at e
    · rename_i eq
      cases e
      rw [if_pos eq]
      exact ⟨v, rfl, r⟩
    · rename_i ne
      rw [if_neg ne]
      exact h.yes g d' e
  · unfold putO
    rw [if_neg (fun e : g = f => ng (e ▸ hf))]
    exact h.sub g ng
theorem FsOk.keep {o : Str → Option PyData} {nms : List Str} {fs : List (Str × V)} (h : FsOk K H o nms fs) (k : ∀ a xs, Rd H a (.tup xs) → Rd H1 a (.tup xs)) : FsOk K H1 o nms fs :=
  ⟨h.no, fun f d e => let ⟨v, l, r⟩ := h.yes f d e; ⟨v, l, Rn.keep k d v r⟩, h.sub, h.nd, h.ks⟩
end
noncomputable def Tq.put (t : Tq) (i : Nat) (f : Str) (d : PyData) : Tq := t.setO i (putO (t.o i) f d)
theorem o_put {t : Tq} {i : Nat} {f : Str} {d : PyData} : (t.put i f d).o i = putO (t.o i) f d := by unfold Tq.put Tq.setO; simp
theorem o_set {t : Tq} {i : Nat} {o' : Str → Option PyData} : (t.setO i o').o i = o' := by unfold Tq.setO; simp
/-- the object i of m: an instance of C with the attributes nms -/
structure Ob (K : PySem.W.Frag) (m : Dck) (i : Nat) (C : Addr) (nms : List Str) : Prop where
  us : i ∈ m.us
  pl : m.pl (m.adr i)
  get : ∀ {H : Hp} {t : Tq}, m.ok H t → ∃ dx fs, H (m.adr i) = some (.ins C dx fs) ∧ FsOk K H (t.o i) nms fs
  put : ∀ {H : Hp} {t : Tq} {dx : Addr} {fs : List (Str × V)} {f : Str} {d : PyData} {v : V}, m.ok H t → H (m.adr i) = some (.ins C dx fs) → f ∈ nms → Rn K H d v → m.ok (upd H (m.adr i) (.ins C dx (putF f v fs))) (t.put i f d)
noncomputable def PO (K : PySem.W.Frag) (i : Nat) (C : Addr) (nms : List Str) : Dck → Prop := fun m => Ob K m i C nms
/-- the object that a slot holds -/
noncomputable def ptR (K : PySem.W.Frag) (C : Addr) (nms : List Str) : Option Sl → (Nat → Prop) → Prop
  | some (.ptr i M), k => M = PO K i C nms ∧ k i
  | _, _ => False
section
variable {K : PySem.W.Frag} {C : Addr} {nms : List Str}
theorem Rep.pt {m : Dck} {B0 B : Addr → Prop} {e : En} {σ : L2.St} {H : Hp} {t : Tq} {j : Nat} {k : Nat → Prop} (r : Rep K m B0 B e σ H t) (h : ptR K C nms e[j]? k) : ∃ i, σ[j]? = some (some (.ref (m.adr i))) ∧ Ob K m i C nms ∧ k i := by
  have s := r.sl j
  cases q : e[j]? with
  | none => rw [q] at h; exact h.elim
  | some x =>
    rw [q] at h s
    cases x with
    | fn _ _ _ _ _ => first | exact h.elim | (cases h'; done) | exact s | trivial
    | ptr i N =>
      obtain ⟨rfl, hk⟩ : N = PO K i C nms ∧ k i := h
      exact ⟨i, s.1, s.2.2, hk⟩
    | un => exact h.elim
    | own ds => exact h.elim
    | deck _ => exact h.elim
    | dat _ => exact h.elim
/-- the promise of a def whose first argument is an object -/
noncomputable def spO (K : PySem.W.Frag) (C : Addr) (nms : List Str) (p : Nat → Pm) : Sp := fun vs H Q _ => ∃ (i : Nat) (m : Dck) (B : Addr → Prop) (t : Tq) (ds : List PyData) (ws : List V), vs = .ref (m.adr i) :: ws ∧ Ob K m i C nms ∧ Al B H ∧ (∀ a, m.pl a → B a) ∧ m.ok H t ∧ RpA K B H ds ws ∧
  (p i).w ds t fun d t' => ∀ v H', Xt m.pl H H' → m.ok H' t' → Rp K B H' d v → Q v H'
end
end CG
namespace CG
open PySem PySem.Spec PyProof.Rows L2
section
variable {K : PySem.W.Frag}
theorem rd_upd {H : Hp} {x : Addr} {o : HO} (lv : Lv (H x)) (a : Addr) (xs : List V) (h : Rd H a (.tup xs)) : Rd (upd H x o) a (.tup xs) := by
  have ne : a ≠ x := fun w => by
    rw [w] at h
    rcases h with e | ⟨o, e⟩
    · rw [e] at lv; exact lv
    · rw [e] at lv; exact lv
  rcases h with e | ⟨o, e⟩
  · exact .inl (by rw [upd_ne ne]; exact e)
  · exact .inr ⟨o, by rw [upd_ne ne]; exact e⟩
/-- with one object more -/
noncomputable def Dck.add (K : PySem.W.Frag) (m : Dck) (i : Nat) (x dx C : Addr) (nms : List Str) : Dck where
  pl := fun a => m.pl a ∨ a = x
  D := m.D
  adr := fun j => if j = i then x else m.adr j
  us := i :: m.us
  ok := fun H t => m.ok H t ∧ ∃ fs, H x = some (.ins C dx fs) ∧ FsOk K H (t.o i) nms fs
  live := fun {H t a} k h => by
    rcases h with h | rfl
    · exact m.live k.1 h
    · obtain ⟨fs, e, _⟩ := k.2
      rw [e]; exact trivial
  stay := fun {H H1 t} k h1 h2 h3 => by
    obtain ⟨k1, fs, e, f⟩ := k
    exact ⟨m.stay k1 (fun a o p => h1 a o (.inl p)) h2 h3, fs, h1 x _ (.inr rfl) e, f.keep h2⟩
  fre := fun {H t j o'} hj k => by
    obtain ⟨k1, fs, e, f⟩ := k
    have n1 : i ≠ j := fun z => hj (z ▸ List.mem_cons_self)
    refine ⟨m.fre (fun z => hj (List.mem_cons_of_mem _ z)) k1, fs, e, ?_⟩
    show FsOk K H (if i = j then o' else t.o i) nms fs
    rw [if_neg n1]
    exact f
theorem add_adr {m : Dck} {i : Nat} {x dx C : Addr} {nms : List Str} : (m.add K i x dx C nms).adr i = x := if_pos rfl
theorem ob_add {m : Dck} {i : Nat} {x dx C : Addr} {nms : List Str} (np : ¬ m.pl x) (hi : i ∉ m.us) : Ob K (m.add K i x dx C nms) i C nms where
  us := List.mem_cons_self
  pl := by rw [add_adr]; exact .inr rfl
  get := fun {H t} k => by
    obtain ⟨k1, fs, e, f⟩ := k
    rw [add_adr]
    exact ⟨dx, fs, e, f⟩
  put := fun {H t dx' fs f d v} k e hf rn => by
    obtain ⟨k1, fs', e', g⟩ := k
    rw [add_adr] at e ⊢
    rw [e'] at e
    cases e
    have lv : Lv (H x) := by rw [e']; exact trivial
    refine ⟨m.putV (m.fre hi k1) np lv, _, upd_same, ?_⟩
    rw [o_put]
    exact (g.put hf rn).keep (rd_upd lv)
/-- what stays known of the slots -/
noncomputable def keS (M : Dck → Prop) : Sl → Sl
  | .deck N => open Classical in if N = M then .deck N else .un
  | .ptr _ _ => .un
  | s => s
theorem map_get {e : En} {M : Dck → Prop} {j : Nat} : (e.map (keS M))[j]? = (e[j]?).map (keS M) := List.getElem?_map
theorem own_ke {e : En} {M : Dck → Prop} {j : Nat} {ds : List PyData} (h : (e.map (keS M))[j]? = some (.own ds)) : e[j]? = some (.own ds) := by
  rw [map_get] at h
  cases q : e[j]? with
  | none => rw [q] at h; cases h
  | some y =>
    rw [q] at h
    have h' : keS M y = .own ds := Option.some.inj h
    cases y with
    | own es => cases h'; rfl
    | un => cases h'
    | dat d => cases h'
    | ptr _ _ => cases h'
    | fn _ _ _ _ _ => cases h'
    | deck N =>
      by_cases eN : N = M
      · rw [show keS M (.deck N) = .deck N from if_pos eN] at h'
        cases h'
      · rw [show keS M (.deck N) = .un from if_neg eN] at h'
        cases h'
/-- the slots under the larger deck -/
theorem Rep.toAdd {m : Dck} {B0 B : Addr → Prop} {e : En} {σ : L2.St} {H : Hp} {t : Tq} {i : Nat} {x dx C : Addr} {nms : List Str} {M : Dck → Prop} (r : Rep K m B0 (Bp B x) e σ H t) (nB : ¬ B x) (hM : M (m.add K i x dx C nms)) (hown : ∀ (j : Nat) (ds : List PyData), e[j]? = some (Sl.own ds) → σ[j]? ≠ some (some (V.ref x)))
    (k : (m.add K i x dx C nms).ok H t) : Rep K (m.add K i x dx C nms) B0 (Bp B x) (e.map (keS M)) σ H t := by
  refine ⟨r.al, fun a p => p.elim (r.pb a) fun e => .inr e, r.b0, k, by rw [List.length_map]; exact r.ln, fun j => ?_, fun a b p ds es h1 h2 h3 h4 => r.ow a b p ds es (own_ke h1) (own_ke h2) h3 h4⟩
  have s := r.sl j
  have ho := hown j
  rw [map_get]
  cases q : e[j]? with
  | none => trivial
  | some y =>
    rw [q] at s ho
    cases y with
    | un => trivial
    | dat d => exact s
    | own ds =>
      obtain ⟨p, vs, e1, b, b0, np, hp, ra⟩ := s
      exact ⟨p, vs, e1, b, b0, fun z => z.elim np fun w => ho ds rfl (by rw [e1, w]), hp, ra⟩
    | ptr _ _ => trivial
    | fn _ _ _ _ _ => first | trivial | exact s
    | deck N =>
      show RepS K _ B0 (Bp B x) H (some (keS M (.deck N))) _
      by_cases eN : N = M
      · rw [show keS M (.deck N) = .deck N from if_pos eN, eN]
        exact ⟨s.1, hM⟩
      · rw [show keS M (.deck N) = .un from if_neg eN]
        trivial
/-- .. and back -/
theorem Rep.ofAdd {m : Dck} {B0 B : Addr → Prop} {e : En} {σ : L2.St} {H : Hp} {t : Tq} {i : Nat} {x dx C : Addr} {nms : List Str} {M : Dck → Prop} (r : Rep K (m.add K i x dx C nms) B0 B e σ H t) (hM : M m) : Rep K m B0 B (e.map (keS M)) σ H t := by
  refine ⟨r.al, fun a p => r.pb a (.inl p), r.b0, r.ok.1, by rw [List.length_map]; exact r.ln, fun j => ?_, fun a b p ds es h1 h2 h3 h4 => r.ow a b p ds es (own_ke h1) (own_ke h2) h3 h4⟩
  have s := r.sl j
  rw [map_get]
  cases q : e[j]? with
  | none => trivial
  | some y =>
    rw [q] at s
    cases y with
    | un => trivial
    | dat d => exact s
    | own ds =>
      obtain ⟨p, vs, e1, b, b0, np, hp, ra⟩ := s
      exact ⟨p, vs, e1, b, b0, fun z => np (.inl z), hp, ra⟩
    | ptr _ _ => trivial
    | fn _ _ _ _ _ => first | trivial | exact s
    | deck N =>
      show RepS K m B0 B H (some (keS M (.deck N))) _
      by_cases eN : N = M
      · rw [show keS M (.deck N) = .deck N from if_pos eN, eN]
        exact ⟨s.1, hM⟩
      · rw [show keS M (.deck N) = .un from if_neg eN]
        trivial
/-- a slot holds the object -/
theorem Rep.setPt {m : Dck} {B0 B : Addr → Prop} {e : En} {σ : L2.St} {H : Hp} {t : Tq} {i j : Nat} {N : Dck → Prop} (r : Rep K m B0 B e σ H t) (hi : i ∈ m.us) (hN : N m) : Rep K m B0 B (e.set j (.ptr i N)) (σ.set j (some (.ref (m.adr i)))) H t := by
  refine ⟨r.al, r.pb, r.b0, r.ok, by rw [List.length_set, List.length_set]; exact r.ln, fun l => ?_, fun a b p ds es h1 h2 h3 h4 => ?_⟩
  · by_cases z : j = l
    · subst z
      by_cases hl : j < e.length
      · rw [List.getElem?_set_self hl, List.getElem?_set_self (by rw [← r.ln]; exact hl)]
        exact ⟨rfl, hi, hN⟩
      · rw [List.getElem?_eq_none (by rw [List.length_set]; omega)]
        trivial
    · rw [List.getElem?_set_ne z, List.getElem?_set_ne z]
      exact r.sl l
  · have na : j ≠ a := fun z => by
      subst z
      by_cases hl : j < e.length
      · rw [List.getElem?_set_self hl] at h1; cases h1
      · rw [List.getElem?_eq_none (by rw [List.length_set]; omega)] at h1; cases h1
    have nb : j ≠ b := fun z => by
      subst z
      by_cases hl : j < e.length
      · rw [List.getElem?_set_self hl] at h2; cases h2
      · rw [List.getElem?_eq_none (by rw [List.length_set]; omega)] at h2; cases h2
    rw [List.getElem?_set_ne na] at h1 h3
    rw [List.getElem?_set_ne nb] at h2 h4
    exact r.ow a b p ds es h1 h2 h3 h4
theorem not_in : ∀ l : List Nat, ∃ i, i ∉ l := fun l => by
  have : ∀ l : List Nat, ∃ n, ∀ x ∈ l, x < n := fun l => by
    induction l with
    | nil => exact ⟨0, fun _ h => nomatch h⟩
    | cons a l ih =>
      obtain ⟨n, h⟩ := ih
      refine ⟨max n (a + 1), fun x hx => ?_⟩
      rcases List.mem_cons.mp hx with rfl | hx
      · omega
      · have := h x hx; omega
  obtain ⟨n, h⟩ := this l
  exact ⟨n, fun z => Nat.lt_irrefl n (h n z)⟩
/-- x = C(..), and what follows with the object -/
noncomputable def AS.new {C : Addr} {nms : List Str} (M : Dck → Prop) (up : ∀ {m : Dck} {i : Nat} {x dx : Addr}, M m → ¬ m.pl x → M (m.add K i x dx C nms)) (jd j : Nat) (p : Nat → Pm) (E : XK) (a : AA K) (rest : AS K) : AS K := ⟨tSeq (tAsg (tMake C (spO K C nms p) [] E a.ta) (gName j)) rest.ts,
  fun e t k => a.wp e t fun ds t1 => dkS e[jd]? M ∧ ∀ i, (p i).w ds (t1.setO i fun _ => none) fun d t2 => d = .none ∧ rest.wp ((e.map (keS M)).set j (.ptr i (PO K i C nms))) t2 { nx := fun e' t' => k.nx (e'.map (keS M)) t', rt := k.rt, bk := fun e' t' => k.bk (e'.map (keS M)) t', ct := fun e' t' => k.ct (e'.map (keS M)) t' },
  fun {m B0 B1 H0 H1 Dd k} c {B e σ H t} f r h => a.ok r h _ fun vs ds H2 t2 x2 k2 h2 r2 => fun x dx nx nd ne => by
    obtain ⟨hdk, hp⟩ := h2
    obtain ⟨i, hi⟩ := not_in m.us
    have s2 := r.up x2 k2
    have f2 := f.step r x2
    obtain ⟨_, hMm⟩ := s2.dk hdk
    have nB : ¬ B x := s2.al.new nx
    have np : ¬ m.pl x := fun z => nB (s2.pb x z)
    have sm : Same H2 (upd (upd H2 dx (.own x)) x (.ins C dx [])) := (same_new nd).trans (same_new (by rw [upd_ne (fun w => ne w.symm)]; exact nx))
    have lx : Lv ((upd (upd H2 dx (.own x)) x (.ins C dx [])) x) := by rw [upd_same]; exact trivial
    have hx0 : ∀ {Ha : Hp} {Bq : Addr → Prop}, Xt Bq Ha H2 → ¬ Bq x → Ha x = none := fun {Ha Bq} y nb => by
      cases q : Ha x with
      | none => rfl
      | some o =>
        have := y.kp x o nb q
        rw [nx] at this
        cases this
    have h0x : H0 x = none := hx0 f2.x0 np
    have s3 := s2.under nx (m.xs k2 sm) (m.same (m.fre (o' := fun _ => none) hi k2) sm) lx
    have f3 := f2.step s2 (m.xs k2 sm)
    generalize hH3 : upd (upd H2 dx (.own x)) x (.ins C dx []) = H3 at sm lx s3 f3 ⊢
    have e3 : H3 x = some (.ins C dx []) := by rw [← hH3]; exact upd_same
    have km : (m.add K i x dx C nms).ok H3 (t2.setO i fun _ => none) := ⟨s3.ok, [], e3, by
      rw [o_set]
      exact ⟨(fun _ _ => rfl), (fun _ _ z => nomatch z), (fun _ _ => rfl), List.nodup_nil, (fun _ z => nomatch z)⟩⟩
    have s4 := Rep.toAdd (M := M) s3 nB (up hMm np) (fun l ds' hl hs => by
      have q := s2.sl l
      rw [hl, hs] at q
      obtain ⟨p', vs', e1, b, _⟩ := q
      cases e1
      exact nB b) km
    have f4 : Fr (m.add K i x dx C nms) B0 H0 B1 H1 (Bp B x) H3 := by
      refine ⟨⟨fun a h => .inl (f3.g0.up a h), fun a h => h.elim (f3.g0.fr a) fun e => .inr (e ▸ h0x)⟩, ⟨fun a o np' e => f3.x0.kp a o (fun z => np' (.inl z)) e, fun a pa => pa.elim (f3.x0.al a) fun e => e ▸ lx⟩, fun a h => h.elim (f3.f1 a) fun e => ?_, f3.x1⟩
      subst e
      by_cases b1 : B1 a
      · exact .inl b1
      · exact .inr (hx0 f2.x1 b1)
    have y3 : Xt (Bp B x) H2 H3 := ⟨fun a o _ e => sm a o e, s3.al⟩
    refine ⟨i, m.add K i x dx C nms, Bp B x, _, ds, vs, by rw [add_adr, List.append_nil], ob_add np hi, s3.al, s4.pb, km, (RpA.grow (gw_new nx) _ _ r2).up y3, (p i).mono (fun d t3 hk => ?_) (hp i)⟩
    intro v H4 x4 k4 rv
    obtain ⟨rfl, hr⟩ := hk
    refine ⟨rp_non.mp rv, ?_⟩
    have s5 := (s4.up x4 k4).setPt (j := j) (N := PO K i C nms) (List.mem_cons_self) (ob_add np hi)
    rw [add_adr] at s5
    have f5 := f4.step s4 x4
    have back : ∀ {Bq : Addr → Prop} {Hq : Hp}, Fr (m.add K i x dx C nms) B0 H0 B1 H1 Bq Hq → Fr m B0 H0 B1 H1 Bq Hq := fun {Bq Hq} g => ⟨g.g0, ⟨fun a o np' e => g.x0.kp a o (fun z => z.elim np' fun w => by rw [w, h0x] at e; cases e) e, fun a pa => g.x0.al a (.inl pa)⟩, g.f1, g.x1⟩
    refine rest.ok (k := { nx := fun e' t' => k.nx (e'.map (keS M)) t', rt := k.rt, bk := fun e' t' => k.bk (e'.map (keS M)) t', ct := fun e' t' => k.ct (e'.map (keS M)) t' }) ⟨fun g r' hk => c.nx (back g) (r'.ofAdd hMm) hk, fun g r' hk => c.bk (back g) (r'.ofAdd hMm) hk, fun g r' hk => c.ct (back g) (r'.ofAdd hMm) hk, fun xq kq hk rq => ?_⟩ f5 s5 hr
    exact c.rt ⟨fun a o np' e => xq.kp a o (fun z => z.elim np' fun w => by rw [w, h0x] at e; cases e) e, fun a pa => xq.al a (.inl pa)⟩ kq.1 hk rq⟩
end
end CG
namespace CG
open PySem PySem.Spec PyProof.Rows L2
noncomputable def Tq.up (t : Tq) (k : Int) : Tq := ⟨t.n + k, t.o⟩
/-- a deck of cells and a number of draws -/
noncomputable def dkB (D C : Addr) : Dck where
  pl := Bk D C
  D := D
  adr := fun _ => (0 : Nat)
  us := []
  ok := fun H t => Dk (Bk D C) H D C t.n
  live := fun k h => k.al _ h
  stay := fun {H H1 t} k h _ _ => by
    obtain ⟨bD, bC, al, ne, nn, cs, h1, h2, h3⟩ := k
    have g1 := h D _ (.inl rfl) h1
    have g2 := h C _ (.inr rfl) h2
    refine ⟨bD, bC, fun a z => ?_, ne, nn, cs, g1, g2, h3⟩
    rcases z with rfl | rfl
    · rw [g1]; exact trivial
    · rw [g2]; exact trivial
  fre := fun _ k => k
structure MBs (m : Dck) (C : Addr) : Prop where
  bk : ∀ a, Bk m.D C a → m.pl a
  get : ∀ {H : Hp} {t : Tq}, m.ok H t → Dk (Bk m.D C) H m.D C t.n
  put : ∀ {H H1 : Hp} {t : Tq} {n' : Int}, m.ok H t → Xt (Bk m.D C) H H1 → Dk (Bk m.D C) H1 m.D C n' → m.ok H1 ⟨n', t.o⟩
noncomputable def MB (m : Dck) : Prop := ∃ C, MBs m C
theorem mb_dkB {D C : Addr} : MB (dkB D C) := ⟨C, ⟨fun _ h => h, fun k => k, fun _ _ k => k⟩⟩
end CG
namespace CG
open PySem PySem.Spec PyProof.Rows L2
/-- an object that is known: a tuple of these numbers, without a dict of its own -/
noncomputable def ExO (o : HO) (ns : List Int) : Prop := ∃ ob, o = .frz ob (.tup (ns.map V.int)) ∧ ob.cls = .type "tuple" ∧ ob.dict = none
theorem ExO.nl {o : HO} {ns : List Int} (h : ExO o ns) : ¬ Lv (some o) := fun z => by
  obtain ⟨ob, rfl, _⟩ := h
  exact z
theorem ExO.nb {B : Addr → Prop} {H : Hp} {a : Addr} {o : HO} {ns : List Int} (h : ExO o ns) (al : Al B H) (e : H a = some o) : ¬ B a := fun b => h.nl (e ▸ al a b)
theorem ExO.rp {K : PySem.W.Frag} {B : Addr → Prop} {H : Hp} {a : Addr} {o : HO} {ns : List Int} (h : ExO o ns) (al : Al B H) (e : H a = some o) : ¬ B a ∧ Rp K B H (.tuple (ns.map PyData.int)) (.ref a) := by
  have nb : ¬ B a := fun b => h.nl (e ▸ al a b)
  obtain ⟨ob, rfl, _⟩ := h
  exact ⟨nb, rp_tup.mpr ⟨a, _, rfl, .inl nb, .inl (.inr ⟨ob, e⟩), RpA.ints ns⟩⟩
section
variable {X : Cx}
noncomputable def rTIndex (K : PySem.W.Frag) : V → List V → Hp → VK → Prop := fun x xs H Q => ∃ (p : Addr) (ns : List Int) (i : Int), x = V.ref p ∧ xs = [.int i] ∧ SqT K H p (ns.map V.int) ∧ i ∈ ns ∧ Q (.int (ns.idxOf i : Nat)) H
theorem mt_tindex : MtR X "tuple.index" (rTIndex X.K) := by
  intro pins s σ H x xs v us Q I rx rxs h
  obtain ⟨p, ns, i, rfl, rfl, hs, hi, q⟩ := h
  cases rx
  cases rxs with
  | cons ry rt =>
    cases rt
    obtain ⟨t, rfl⟩ := ry
    obtain ⟨its, rv, ht, hz⟩ := I.tuple hs
    exact PySem.SeqAt.tuple_index_ints ht rv.ints hi ⟨.int (ns.idxOf i : Nat), H, I.tok _, ⟨_, rfl⟩, q⟩
noncomputable def exV (x : V) (H : Hp) : Prop := ∃ p ob zs, x = V.ref p ∧ H p = some (.frz ob (.tup zs)) ∧ ob.cls = .type "tuple" ∧ ob.dict = none
noncomputable def tBMX (r : V → List V → Hp → VK → Prop) (to : TE) (t : TA) : TE := fun σ H Q => to σ H fun x H1 => exV x H1 ∧ t σ H1 fun xs H2 => r x xs H2 Q
theorem pe_tix {K : PySem.W.Frag} {name : Str} {o e : Expr} {es : List Expr} {to : TE} {t : TA} {apos cpos : Pos} (slot : Slot "tuple" name "tuple.index") (ho : PE X o to) (ha : PA X (e :: es) t) (hK : X.K = K := by rfl)
    (hbase : attributeBase o name X.env (eval o X.env) = eval o X.env := by rfl)
    (hfew : ((backTo cpos (starEach (e :: es) X.env)).all (fun x => !x.1) && (backToKw cpos (keywordEach [] X.env)).all (fun x => x.1.isSome)
      && decide ((e :: es).length + ([] : List Keyword).length + (if ([] : List Keyword).isEmpty then 0 else 1) < 30)) = true := by rfl)
    (hline : (apos.endLine == cpos.line) = true := by rfl) (hs : starEach (e :: es) X.env = (false, eval e X.env) :: starEach es X.env := by rfl) (hplain : (backTo cpos (starEach es X.env)).any (·.1) = false := by rfl) :
    PE X (.Call (.Attribute o name apos) (e :: es) [] cpos) (tBMX (rTIndex K) to t) := by
  subst hK
  refine ⟨fun pins s σ H Q I h => ?_⟩
  refine wpAny_Call_method_late hbase hfew hline rfl (thn (ho.run pins s σ H _ I h) fun v s1 ⟨x, H1, I1, r1, ty, q1⟩ => ?_)
  obtain ⟨p, ob, zs, rfl, hp, hc, hd⟩ := ty
  cases r1
  have hg : s1.heap.get? p = some ob := (I1.hok p _ hp).1
  refine ⟨"tuple", "tuple.index", PySem.F.plainAttrs_tuple, slot, PySem.F.type_tuple_index, ⟨ob, hg, hc⟩, fun a e => by cases e; exact ⟨ob, hg, hd⟩, ?_⟩
  have hA := ha.run cpos pins s1 σ H1 _ I1 q1
  rw [hs] at hA ⊢
  refine Calls.callWith_builtin (by show (false || (backTo cpos (starEach es X.env)).any (·.1)) = false; rw [hplain] <;> rfl) (Calls.evalArgs_plain ?_)
  exact thn hA fun us s2 ⟨vs, H2, I2, r2, q2⟩ => mt_tindex pins s2 σ H2 (.ref p) vs _ us Q I2 rfl r2 q2
/-- tuple(range(..)), its object known -/
noncomputable def tTupRgX (te : L2.St → Hp → (Int → Int → Hp → Prop) → Prop) : TE := fun σ H Q => te σ H fun a b H1 => RgOk a b ∧ ∀ q ob, H1 q = none → ob.cls = .type "tuple" → ob.dict = none → Q (.ref q) (upd H1 q (.frz ob (.tup (rgV a b))))
theorem pe_tupRgX {e : Expr} {te : L2.St → Hp → (Int → Int → Hp → Prop) → Prop} {p pos : Pos} (hc : X.calm = true) (hg : Gl X "tuple") (hm : X.mg "tuple" = none) (he : PRg X e te) (na : starEach [e] X.env = (false, eval e X.env) :: starEach [] X.env := by rfl) : PE X (.Call (.Name "tuple" p) [e] [] pos) (tTupRgX te) := by
  refine ⟨fun pins s σ H Q I h => ?_⟩
  refine Call_ (ld_blt I hg hm boot_tuple (PyProof.Rows.callWith_type1 (args_cons (thn (he pins s σ H _ I h) fun x s1 ⟨r, a, b, t, u, v, H1, ex, hr, I1, ok, q⟩ => args_nil ?_) na) na))
  subst ex
  obtain ⟨b1, b2, b3, b4, b5⟩ := ok
  refine call_tuple_range (n := (b - a).toNat) (I1.ok.hd hc) hr (small_one b1 b2 b3 b4) (rangeSize_nat a b) b5 fun h' tk acc hk hi => ?_
  have I2 : Inv X pins σ H1 { s1 with heap := h', toks := tk } := I1.kept hk
  refine ⟨.ref h'.objs.size, upd H1 h'.objs.size (.frz { cls := .type "tuple", data := .seq acc } (.tup (rgV a b))), I2.laid (t' := tk) (fun c o e => Heap.get?_push_of_some _ e) (Nat.le_refl _) (show ObjOk X.prog X.w _ _ _ (.frz _ (.tup (rgV a b))) from ⟨Heap.get?_push_size _ rfl, ?_, acc.toList, vals_rg hi, ?_⟩), rfl, q _ _ (I2.hok.fresh (Nat.le_refl _)) rfl rfl⟩
  · rw [rgV_length, sizeLine_eq]; omega
  · rw [Array.toArray_toList]; exact IsTup.new _ _
/-- t[::-1], its object known -/
noncomputable def tRevTX (K : PySem.W.Frag) (te : TE) : TE := fun σ H Q => te σ H fun x H1 => ∃ a xs, x = .ref a ∧ SqT K H1 a xs ∧ ∀ p ob, H1 p = none → ob.cls = .type "tuple" → ob.dict = none → Q (.ref p) (upd H1 p (.frz ob (.tup xs.reverse)))
theorem pe_revTX {e : Expr} {te : TE} {k : Nat} {p1 p2 p3 pos : Pos} (he : PE X e te) :
    PE X (.Subscript e (.Slice none none (some (.UnaryOp .USub (.Constant (.int 1) k p1) p2)) p3) pos) (tRevTX X.K te) := by
  refine ⟨fun pins s σ H Q I h => ?_⟩
  refine Subscript_ (thn (he.run pins s σ H _ I h) fun v s1 ⟨x, H1, I1, r1, q1⟩ => ?_)
  obtain ⟨a, xs, rfl, hx, q⟩ := q1
  cases r1
  have hst : L2.PO X (some (.UnaryOp .USub (.Constant (.int 1) k p1) p2)) (tPart (tUn (rU fun i => .int (-i)) (tC (.int 1)))) := po_some (pe_un un_neg pe_int)
  refine wpAny_Slice (thn (po_none.run pins s1 σ H1 (fun o G => o = none ∧ G = H1) I1 ⟨rfl, rfl⟩) fun vl s2 ⟨l, H2, I2, pl, el, e2⟩ => ?_)
  subst el e2
  refine thn (po_none.run pins s2 σ H2 (fun o G => o = none ∧ G = H2) I2 ⟨rfl, rfl⟩) fun vu s3 ⟨u, H3, I3, pu, eu, e3⟩ => ?_
  subst eu e3
  refine thn (hst.run pins s3 σ H3 (fun o G => o = some (-1) ∧ G = H3) I3 ⟨1, rfl, -1, rfl, rfl, rfl⟩) fun vs s4 ⟨o, H4, I4, ps, eo, e4⟩ => ?_
  subst eo e4
  have I5 : Inv X pins σ H4 { s4 with heap := s4.heap.push { cls := .type "slice", data := .fields #[vl, vu, vs] } } := I4.kept (t' := s4.toks) fun b ob q => Heap.get?_push_of_some _ q
  obtain ⟨its, r, ht, hz⟩ := I5.tuple hx
  obtain rfl : vl = Value.none := by cases pl; rfl
  obtain rfl : vu = Value.none := by cases pu; rfl
  show wpAny (model X.prog X.w) X.A (subscriptTail e (.Slice none none (some (.UnaryOp .USub (.Constant (.int 1) k p1) p2)) p3) (.ref a) (.ref s4.heap.objs.size)) (EP X pins σ Q) X.xe { s4 with heap := s4.heap.push { cls := .type "slice", data := .fields #[.none, .none, vs] } }
  refine tail_any (ops := [.ref a, .ref s4.heap.objs.size]) ht.typeIs (PyProof.Rows.slot_tuple_getitem.lookup) ?_ (by with_unfolding_all rfl)
  refine rev_item ht (Heap.IsSliceOf.new _ .none .none vs) ps ?_ (by rw [← r.length]; exact hz)
  refine ⟨.ref _, _, I5.laid (t' := s4.toks) (o := .frz { cls := .type "tuple", data := .seq its.reverse.toArray } (.tup xs.reverse)) (fun b ob q => Heap.get?_push_of_some _ q) (Nat.le_refl _) ⟨Heap.get?_push_size _ rfl, ?_⟩, rfl, q _ _ (I5.hok.fresh (Nat.le_refl _)) rfl rfl⟩
  exact ⟨by rw [List.length_reverse]; exact hz, _, r.reverse, IsTup.new _ _⟩
/-- tuple(list), its object known -/
noncomputable def rTupX (K : PySem.W.Frag) : List V → Hp → VK → Prop := fun xs H Q => ∃ p ys, xs = [.ref p] ∧ SqL K H p ys ∧ ∀ l ob, H l = none → ob.cls = .type "tuple" → ob.dict = none → Q (.ref l) (upd H l (.frz ob (.tup ys)))
theorem call_tupX : CallR X (.type "tuple") (rTupX X.K) := by
  intro pins s σ H xs us Q I r h
  obtain ⟨p, ys, rfl, hq, q⟩ := h
  obtain ⟨u, rfl, rx⟩ := vals1 r
  cases rx
  obtain ⟨its, r', pl, hz⟩ := I.list hq
  have hlen := r'.length
  refine call_tuple_list pl.isList (fun h' kp => ?_) (by simp only [List.size_toArray] <;> omega)
  have I1 : Inv X pins σ H { s with heap := h' } := I.kept (t' := s.toks) kp
  have I2 : Inv X pins σ (upd H h'.objs.size (.frz { cls := .type "tuple", data := .seq its.toArray } (.tup ys))) { s with heap := h'.push { cls := .type "tuple", data := .seq its.toArray } } :=
    I1.laid (t' := s.toks) (fun b o e => Heap.get?_push_of_some _ e) (Nat.le_refl _) (show ObjOk X.prog X.w _ _ _ (.frz _ (.tup ys)) from ⟨Heap.get?_push_size _ rfl, hz, its, r', IsTup.new _ _⟩)
  exact ⟨.ref h'.objs.size, _, I2, rfl, q _ _ (I1.hok.fresh (Nat.le_refl _)) rfl rfl⟩
end
end CG
namespace CG
open PySem PySem.Spec PyProof.Rows L2
section
variable {K : PySem.W.Frag}
theorem Rep.setFn {m : Dck} {B0 B : Addr → Prop} {e : En} {σ : L2.St} {H : Hp} {t : Tq} {j : Nat} {f c : Addr} {o : HO} {d : PyData} {v : V} (r : Rep K m B0 B e σ H t) (hc : H c = some o) (nl : ¬ Lv (some o)) (rv : Rp K B H d v) : Rep K m B0 B (e.set j (.fn f c o d v)) (σ.set j (some (.ref f))) H t := by
  refine ⟨r.al, r.pb, r.b0, r.ok, by rw [List.length_set, List.length_set]; exact r.ln, fun l => ?_, fun a b p ds es h1 h2 h3 h4 => ?_⟩
  · by_cases z : j = l
    · subst z
      by_cases hl : j < e.length
      · rw [List.getElem?_set_self hl, List.getElem?_set_self (by rw [← r.ln]; exact hl)]
        exact ⟨⟨rfl, hc, nl⟩, rv⟩
      · rw [List.getElem?_eq_none (by rw [List.length_set]; omega)]
        trivial
    · rw [List.getElem?_set_ne z, List.getElem?_set_ne z]
      exact r.sl l
  · have na : j ≠ a := fun z => by
      subst z
      by_cases hl : j < e.length
      · rw [List.getElem?_set_self hl] at h1; cases h1
      · rw [List.getElem?_eq_none (by rw [List.length_set]; omega)] at h1; cases h1
    have nb : j ≠ b := fun z => by
      subst z
      by_cases hl : j < e.length
      · rw [List.getElem?_set_self hl] at h2; cases h2
      · rw [List.getElem?_eq_none (by rw [List.length_set]; omega)] at h2; cases h2
    rw [List.getElem?_set_ne na] at h1 h3
    rw [List.getElem?_set_ne nb] at h2 h4
    exact r.ow a b p ds es h1 h2 h3 h4
/-- the slot holds such a tuple -/
noncomputable def XSl (a : Addr) (o : HO) (ns : List Int) : Sl := .fn a a o (.tuple (ns.map PyData.int)) (.ref a)
noncomputable def rdX (x : Option Sl) (k : List Int → Prop) : Prop := ∃ a o ns, x = some (XSl a o ns) ∧ ExO o ns ∧ k ns
theorem q_rdX {a : Addr} {o : HO} {ns : List Int} {k : List Int → Prop} (h : ExO o ns) : rdX (some (XSl a o ns)) k ↔ k ns := ⟨fun ⟨a', o', ns', e, h', hk⟩ => by
  injection e with e
  unfold XSl at e
  injection e with _ _ _ e4 _
  injection e4 with e5
  have : ns = ns' := by
    have e6 := congrArg (List.map (fun d : PyData => match d with | .int i => i | _ => 0)) e5
    rw [List.map_map, List.map_map] at e6
    simpa [Function.comp_def] using e6
  rw [this]
  exact hk, fun hk => ⟨a, o, ns, rfl, h, hk⟩⟩
theorem Rep.exa {m : Dck} {B0 B : Addr → Prop} {e : En} {σ : L2.St} {H : Hp} {t : Tq} {i : Nat} {k : List Int → Prop} (r : Rep K m B0 B e σ H t) (h : rdX e[i]? k) : ∃ a o ns, σ[i]? = some (some (.ref a)) ∧ H a = some o ∧ ExO o ns ∧ k ns := by
  obtain ⟨a, o, ns, e1, ho, hk⟩ := h
  have s := r.sl i
  rw [e1] at s
  exact ⟨a, o, ns, s.1.1, s.1.2.1, ho, hk⟩
/-- an expression whose value is such a tuple -/
structure XE (K : PySem.W.Frag) where
  te : TE
  wp : En → Tq → (List Int → Tq → Prop) → Prop
  ok : ∀ {m : Dck} {B0 B : Addr → Prop} {e : En} {σ : L2.St} {H : Hp} {t : Tq} {k : List Int → Tq → Prop}, Rep K m B0 B e σ H t → wp e t k → ∀ Q : VK,
    (∀ a o ns H2 t', Xt m.pl H H2 → m.ok H2 t' → k ns t' → H2 a = some o → ExO o ns → Q (.ref a) H2) → te σ H Q
/-- as data -/
noncomputable def AE.exa (x : XE K) : AE K := ⟨x.te, fun e t k => x.wp e t fun ns t1 => k (.tuple (ns.map PyData.int)) t1, fun {m B0 B e σ H t k} r h Q q =>
  x.ok r h Q fun a o ns H2 t2 x2 k2 h2 ho he => q _ _ H2 t2 x2 k2 h2 (he.rp (r.up x2 k2).al ho).2⟩
noncomputable def XE.var (K : PySem.W.Frag) (i : Nat) : XE K := ⟨tVar i, fun e t k => rdX e[i]? fun ns => k ns t, fun {m B0 B e σ H t k} r h Q q => by
  obtain ⟨a, o, ns, e1, ho, he, hk⟩ := r.exa h
  exact ⟨.ref a, e1, q a o ns H t (Xt.refl (m.al r.ok)) r.ok hk ho he⟩⟩
theorem rgV_ints {n : Int} : rgV 0 n = ((List.range n.toNat).map fun i : Nat => (i : Int)).map V.int := by
  unfold rgV
  rw [List.map_map, Int.sub_zero]
  refine List.map_congr_left fun i _ => ?_
  show V.int (0 + (i : Int)) = V.int (i : Int)
  rw [Int.zero_add]
/-- 0, 1, .. below n -/
noncomputable def upN (n : Int) : List Int := (List.range n.toNat).map fun i : Nat => (i : Int)
noncomputable def XE.tupRg (a : AE K) : XE K := ⟨tTupRgX (tRg1 a.te), fun e t k => a.wp e t fun d t1 => unI d fun n => RgB 0 n ∧ k (CG.upN n) t1, fun {m B0 B e σ H t k} r h Q q =>
  a.ok r h _ fun v d H1 t1 x1 k1 h1 r1 => by
    obtain ⟨n, rfl, hb, hk⟩ := unI_of h1
    refine ⟨n, rp_int.mp r1, hb.ok, fun p ob np hc hd => ?_⟩
    have s := same_new (o := .frz ob (.tup (rgV 0 n))) np
    exact q p _ _ _ t1 (x1.trans (m.xs k1 s)) (m.same k1 s) hk upd_same ⟨ob, by rw [rgV_ints]; rfl, hc, hd⟩⟩
noncomputable def XE.revT (a : AE K) : XE K := ⟨tRevTX K a.te, fun e t k => a.wp e t fun d t1 => ∃ ns : List Int, d = .tuple (ns.map PyData.int) ∧ k ns.reverse t1, fun {m B0 B e σ H t k} r h Q q =>
  a.ok r h _ fun v d H1 t1 x1 k1 h1 r1 => by
    obtain ⟨ns, rfl, hk⟩ := h1
    obtain ⟨a, xs, rfl, na, s, t⟩ := rp_tup.mp r1
    obtain rfl := RpA.ints_inv t
    refine ⟨a, _, rfl, s, fun p ob np hc hd => ?_⟩
    have s' := same_new (o := .frz ob (.tup (ns.map V.int).reverse)) np
    exact q p _ _ _ t1 (x1.trans (m.xs k1 s')) (m.same k1 s') hk upd_same ⟨ob, by rw [List.map_reverse], hc, hd⟩⟩
/-- what a def does whose answer is such a tuple -/
structure PmX where
  w : List PyData → Tq → (List Int → Tq → Prop) → Prop
  mono : ∀ {ds : List PyData} {t : Tq} {k k' : List Int → Tq → Prop}, (∀ d t', k d t' → k' d t') → w ds t k → w ds t k'
noncomputable def spDX (K : PySem.W.Frag) (M : Dck → Prop) (p : PmX) : Sp := fun vs H Q _ => ∃ (m : Dck) (B : Addr → Prop) (t : Tq) (ds : List PyData) (ws : List V), vs = .ref m.D :: ws ∧ M m ∧ Al B H ∧ (∀ a, m.pl a → B a) ∧ m.ok H t ∧ RpA K B H ds ws ∧
  p.w ds t fun ns t' => ∀ a o H', Xt m.pl H H' → m.ok H' t' → H' a = some o → ExO o ns → Q (.ref a) H'
noncomputable def XE.callD (M : Dck → Prop) (p : PmX) (E : XK) (i : Nat) (a : AA K) : XE K := ⟨tCall (spDX K M p) [] E (tCons (tVar i) a.ta), fun e t k => dkS e[i]? M ∧ a.wp e t fun ds t1 => p.w ds t1 k, fun {m B0 B e σ H t k} r h Q q => by
  obtain ⟨h1, h2⟩ := r.dk h.1
  refine ⟨.ref m.D, h1, a.ok r h.2 _ fun vs ds H1 t1 x1 k1 h3 r1 => ?_⟩
  have s := r.up x1 k1
  exact ⟨m, B, t1, ds, vs, by rw [List.append_nil], h2, s.al, s.pb, k1, r1, p.mono (fun ns t' hk a o H' x k2 ha he => q a o ns H' t' (x1.trans x) k2 hk ha he) h3⟩⟩
/-- x = .. -/
noncomputable def AS.setX (i : Nat) (a : XE K) : AS K := ⟨tAsg a.te (gName i), fun e t k => a.wp e t fun ns t1 => ∀ p o, ExO o ns → k.nx (e.set i (XSl p o ns)) t1, fun {m B0 B1 H0 H1 Dd k} c {B e σ H t} f r h =>
  a.ok r h _ fun p o ns H2 t2 x2 k2 h2 ho he => c.nx (f.step r x2) ((r.up x2 k2).setFn ho he.nl (he.rp (r.up x2 k2).al ho).2) (h2 p o he)⟩
/-- x.index(a) -/
noncomputable def AE.tix (x : XE K) (a : AE K) : AE K := ⟨tBMX (rTIndex K) x.te (tCons a.te tNil), fun e t k => x.wp e t fun ns t1 => a.wp e t1 fun d t2 => unI d fun i => i ∈ ns ∧ k (.int (ns.idxOf i : Nat)) t2, fun {m B0 B e σ H t k} r h Q q =>
  x.ok r h _ fun p o ns H2 t2 x2 k2 h2 ho he => by
    have s2 := r.up x2 k2
    have hx : exV (.ref p) H2 := by
      obtain ⟨ob, rfl, hc, hd⟩ := he
      exact ⟨p, ob, _, rfl, ho, hc, hd⟩
    refine ⟨hx, a.ok s2 h2 _ fun v d H3 t3 x3 k3 h3 r3 => ?_⟩
    obtain ⟨i, rfl, hi, hk⟩ := unI_of h3
    obtain rfl := rp_int.mp r3
    have nb := he.nb s2.al ho
    have ho3 : H3 p = some o := x3.kp _ _ (fun z => nb (s2.pb _ z)) ho
    obtain ⟨ob, rfl, hc, hd⟩ := he
    exact ⟨p, ns, i, rfl, rfl, .inl (.inr ⟨ob, ho3⟩), hi, q _ _ H3 t3 (x2.trans x3) k3 hk (rp_int.mpr rfl)⟩⟩
/-- several such tuples -/
noncomputable def ExA (H : Hp) (as : List Addr) (nss : List (List Int)) : Prop := Paired (fun a ns => ∃ o, H a = some o ∧ ExO o ns) as nss
structure XA (K : PySem.W.Frag) where
  ta : TA
  wp : En → Tq → (List (List Int) → Tq → Prop) → Prop
  ok : ∀ {m : Dck} {B0 B : Addr → Prop} {e : En} {σ : L2.St} {H : Hp} {t : Tq} {k : List (List Int) → Tq → Prop}, Rep K m B0 B e σ H t → wp e t k → ∀ Q : List V → Hp → Prop,
    (∀ as nss H2 t', Xt m.pl H H2 → m.ok H2 t' → k nss t' → ExA H2 as nss → Q (as.map V.ref) H2) → ta σ H Q
noncomputable def XA.nil (K : PySem.W.Frag) : XA K := ⟨tNil, fun e t k => k [] t, fun {m B0 B e σ H t k} r h Q q => q [] [] H t (Xt.refl (m.al r.ok)) r.ok h .nil⟩
noncomputable def XA.cons (x : XE K) (xs : XA K) : XA K := ⟨tCons x.te xs.ta, fun e t k => x.wp e t fun ns t1 => xs.wp e t1 fun nss t2 => k (ns :: nss) t2, fun {m B0 B e σ H t k} r h Q q =>
  x.ok r h _ fun p o ns H2 t2 x2 k2 h2 ho he => xs.ok (r.up x2 k2) h2 _ fun as nss H3 t3 x3 k3 h3 ha => by
    have nb := he.nb (r.up x2 k2).al ho
    exact q (p :: as) (ns :: nss) H3 t3 (x2.trans x3) k3 h3 (.cons ⟨o, x3.kp _ _ (fun z => nb ((r.up x2 k2).pb _ z)) ho, he⟩ ha)⟩
theorem ExA.get {H : Hp} : ∀ {as : List Addr} {nss : List (List Int)} {i : Nat} {ns : List Int}, ExA H as nss → nss[i]? = some ns → ∃ a o, as[i]? = some a ∧ H a = some o ∧ ExO o ns
  | _, _, 0, ns, .cons ⟨o, h1, h2⟩ _, e => by
    cases e
    exact ⟨_, o, rfl, h1, h2⟩
  | _, _, i + 1, ns, .cons _ t, e => by
    obtain ⟨a, o, h1, h2, h3⟩ := ExA.get (i := i) t (by simpa using e)
    exact ⟨a, o, by simpa using h1, h2, h3⟩
theorem ExA.rp {B : Addr → Prop} {H : Hp} (al : Al B H) : ∀ {as : List Addr} {nss : List (List Int)}, ExA H as nss → RpA K B H (nss.map fun ns => .tuple (ns.map PyData.int)) (as.map V.ref)
  | _, _, .nil => RpA.nil
  | _, _, .cons ⟨o, h1, h2⟩ t => .cons (h2.rp al h1).2 (ExA.rp al t)
theorem ExA.len {H : Hp} : ∀ {as : List Addr} {nss : List (List Int)}, ExA H as nss → as.length = nss.length
  | _, _, .nil => rfl
  | _, _, .cons _ t => by rw [List.length_cons, List.length_cons, ExA.len t]
/-- for x in [a, b, ..]: s -/
noncomputable def AS.forX (j : Nat) (A : XA K) (s : AS K) : AS K := ⟨tFor (iList K (tLst A.ta)) (gName j) s.ts, fun e t k => A.wp e t fun nss t1 => nss.length ≤ 100 ∧ ∃ I : Nat → En → Tq → Prop, I 0 e t1 ∧
    (∀ (i : Nat) ns e' t', nss[i]? = some ns → I i e' t' → ∀ p o, ExO o ns → s.wp (e'.set j (XSl p o ns)) t' { k with nx := I (i + 1), ct := I (i + 1), bk := k.nx }) ∧ ∀ e' t', I nss.length e' t' → k.nx e' t', fun {m B0 B1 H0 H1 Dd k} c {B e σ H t} f r h =>
  A.ok r h _ fun as nss H2 t2 x2 k2 h2 ha => by
    obtain ⟨hl, I, i0, is, ie⟩ := h2
    have hal := ha.len
    refine ⟨by rw [List.length_map, hal]; exact Nat.le_trans hl (by decide), fun p np => ⟨p, rfl, ⟨_, SqL.of upd_same⟩, ?_⟩⟩
    have sp := same_new (o := .lst (as.map V.ref)) np
    have r2 := r.up x2 k2
    have r3 := r2.same sp
    have f2 := f.step r (x2.trans (m.xs k2 sp))
    have fh := f2.here r3
    have nb : ¬ B p := r2.al.new np
    have sq : Sq K (Itl K p) B (upd H2 p (.lst (as.map V.ref))) (nss.map fun ns => .tuple (ns.map PyData.int)) := sq_lst nb upd_same ((ExA.rp r2.al ha).up (Xt.of r2.al sp))
    refine ⟨fun i mm σ' H' => mm = nss.length - i ∧ i ≤ nss.length ∧ ∃ B' e' t', Fr m B0 H0 B (upd H2 p (.lst (as.map V.ref))) B' H' ∧ Rep K m B0 B' e' σ' H' t' ∧ I i e' t', ⟨nss.length, by simp, Nat.zero_le _, B, e, t2, fh, r3, i0⟩, ?_⟩
    rintro i mm σ' H' ⟨rfl, hi, B', e', t', f', r', hI⟩
    obtain ⟨sg, ss, sy⟩ := f'.sq r' sq
    rw [List.length_map] at sg ss
    by_cases hlt : i < nss.length
    · refine .inr ⟨sg i hlt, fun σ3 H3 => ∃ B' e' t', Fr m B0 H0 B (upd H2 p (.lst (as.map V.ref))) B' H3 ∧ Rep K m B0 B' e' σ3 H3 t' ∧ I (i + 1) e' t', fun σ3 H3 p => ⟨nss.length - (i + 1), by omega, rfl, hlt, p⟩, fun x H3 y => ?_⟩
      obtain ⟨rfl, y⟩ := y
      obtain ⟨a, o, e1, e2, e3⟩ := ha.get (List.getElem?_eq_getElem hlt)
      have hp : H3 p = some (.lst (as.map V.ref)) := f'.x1.kp _ _ nb upd_same
      have hx := y _ (SqL.of hp)
      rw [List.getElem?_map, e1] at hx
      obtain rfl : V.ref a = x := by
        injection hx
      have ho2 : upd H2 p (.lst (as.map V.ref)) a = some o := sp _ _ e2
      have ho : H3 a = some o := f'.x1.kp _ _ (e3.nb r3.al ho2) ho2
      refine s.ok (B1 := B) (H1 := upd H2 p (.lst (as.map V.ref))) (Dd := { Dd with nx := fun σ3 H3 => ∃ B' e' t', Fr m B0 H0 B (upd H2 p (.lst (as.map V.ref))) B' H3 ∧ Rep K m B0 B' e' σ3 H3 t' ∧ I (i + 1) e' t', ct := fun σ3 H3 => ∃ B' e' t', Fr m B0 H0 B (upd H2 p (.lst (as.map V.ref))) B' H3 ∧ Rep K m B0 B' e' σ3 H3 t' ∧ I (i + 1) e' t', bk := Dd.nx }) (k := { k with nx := I (i + 1), ct := I (i + 1), bk := k.nx }) ⟨fun f5 r5 h5 => ⟨_, _, _, f5, r5, h5⟩, fun f5 r5 h5 => c.nx (f2.comp f5) r5 h5, fun f5 r5 h5 => ⟨_, _, _, f5, r5, h5⟩, c.rt⟩ f' (r'.setFn ho e3.nl (e3.rp r'.al ho).2) (is i nss[i] e' t' (List.getElem?_eq_getElem hlt) hI a o e3)
    · have e1 : i = nss.length := by omega
      subst e1
      exact .inl ⟨ss, c.nx (f2.comp f') r' (ie e' t' hI)⟩⟩
theorem w_exa {x : XE K} : (AE.exa x).wp = fun e t k => x.wp e t fun ns t1 => k (.tuple (ns.map PyData.int)) t1 := rfl
theorem t_exa {x : XE K} : (AE.exa x).te = x.te := rfl
theorem w_XEvar {i : Nat} : (XE.var K i).wp = fun e t k => rdX e[i]? fun ns => k ns t := rfl
theorem t_XEvar {i : Nat} : (XE.var K i).te = tVar i := rfl
theorem w_XEtupRg {a : AE K} : (XE.tupRg a).wp = fun e t k => a.wp e t fun d t1 => unI d fun n => RgB 0 n ∧ k (CG.upN n) t1 := rfl
theorem t_XEtupRg {a : AE K} : (XE.tupRg a).te = tTupRgX (tRg1 a.te) := rfl
theorem w_XErevT {a : AE K} : (XE.revT a).wp = fun e t k => a.wp e t fun d t1 => ∃ ns : List Int, d = .tuple (ns.map PyData.int) ∧ k ns.reverse t1 := rfl
theorem t_XErevT {a : AE K} : (XE.revT a).te = tRevTX K a.te := rfl
theorem w_XEcallD {M : Dck → Prop} {p : PmX} {E : XK} {i : Nat} {a : AA K} : (XE.callD M p E i a).wp = fun e t k => dkS e[i]? M ∧ a.wp e t fun ds t1 => p.w ds t1 k := rfl
theorem t_XEcallD {M : Dck → Prop} {p : PmX} {E : XK} {i : Nat} {a : AA K} : (XE.callD M p E i a).te = tCall (spDX K M p) [] E (tCons (tVar i) a.ta) := rfl
theorem w_setX {i : Nat} {a : XE K} : (AS.setX i a).wp = fun e t k => a.wp e t fun ns t1 => ∀ p o, ExO o ns → k.nx (e.set i (XSl p o ns)) t1 := rfl
theorem t_setX {i : Nat} {a : XE K} : (AS.setX i a).ts = tAsg a.te (gName i) := rfl
theorem w_tix {x : XE K} {a : AE K} : (AE.tix x a).wp = fun e t k => x.wp e t fun ns t1 => a.wp e t1 fun d t2 => unI d fun i => i ∈ ns ∧ k (.int (ns.idxOf i : Nat)) t2 := rfl
theorem t_tix {x : XE K} {a : AE K} : (AE.tix x a).te = tBMX (rTIndex K) x.te (tCons a.te tNil) := rfl
theorem w_XAnil : (XA.nil K).wp = fun e t k => k [] t := rfl
theorem t_XAnil : (XA.nil K).ta = tNil := rfl
theorem w_XAcons {x : XE K} {xs : XA K} : (XA.cons x xs).wp = fun e t k => x.wp e t fun ns t1 => xs.wp e t1 fun nss t2 => k (ns :: nss) t2 := rfl
theorem t_XAcons {x : XE K} {xs : XA K} : (XA.cons x xs).ta = tCons x.te xs.ta := rfl
theorem w_forX {j : Nat} {A : XA K} {s : AS K} : (AS.forX j A s).wp = fun e t k => A.wp e t fun nss t1 => nss.length ≤ 100 ∧ ∃ I : Nat → En → Tq → Prop, I 0 e t1 ∧
    (∀ (i : Nat) ns e' t', nss[i]? = some ns → I i e' t' → ∀ p o, ExO o ns → s.wp (e'.set j (XSl p o ns)) t' { k with nx := I (i + 1), ct := I (i + 1), bk := k.nx }) ∧ ∀ e' t', I nss.length e' t' → k.nx e' t' := rfl
theorem t_forX {j : Nat} {A : XA K} {s : AS K} : (AS.forX j A s).ts = tFor (iList K (tLst A.ta)) (gName j) s.ts := rfl
end
end CG
namespace CG
open PySem PySem.Spec PyProof.Rows L2
section
variable {K : PySem.W.Frag}
noncomputable def tRetPopX (it : AI K) (g : AG K) (j : Nat) (a : AA K) (vs : List Nat) : TS := tRet (tCB (rTupX K) (tCons (tLc it.ti g.tg tYes (tBM K "list" rPopAt (tVar j) a.ta) vs) tNil))
noncomputable def wRetPopX (it : AI K) (g : AG K) (j : Nat) (a : AA K) (vs : List Nat) : En → Tq → (List Int → Tq → Prop) → Prop := fun e t kx => owS e[j]? fun es => it.wp e t fun ds t1 => ds.length ≤ 100000 ∧ ∃ I : Nat → List PyData → List PyData → Tq → Prop, I 0 es [] t1 ∧
    (∀ (i : Nat) d l acc t', ds[i]? = some d → I i l acc t' → g.wp d (wipeE (e.set j (.own l)) vs) fun e2 => a.wp e2 t' fun ys t2 => unI1 ys fun n => ∃ y, (0 ≤ n ∧ n < l.length ∧ l.length ≤ 100000) ∧ l[n.toNat]? = some y ∧ I (i + 1) (l.eraseIdx n.toNat) (acc ++ [y]) t2) ∧
    ∀ l acc t', I ds.length l acc t' → ∃ ns : List Int, acc = ns.map PyData.int ∧ kx ns t'
theorem retPopX (it : AI K) (g : AG K) (j : Nat) (a : AA K) (vs : List Nat) (hs : ∀ j ∈ g.sl, j ∈ vs) (hj : j ∉ vs) {m : Dck} {B0 B1 B : Addr → Prop} {H0 H1 H : Hp} {Dd : Ends} {kx : List Int → Tq → Prop} {e : En} {σ : L2.St} {t : Tq} (f : Fr m B0 H0 B1 H1 B H) (r : Rep K m B0 B e σ H t) (h : wRetPopX it g j a vs e t kx)
    (crt : ∀ z o ns H' t', Xt m.pl H0 H' → m.ok H' t' → kx ns t' → H' z = some o → ExO o ns → Dd.rt (.ref z) H') : tRetPopX it g j a vs Dd σ H := by
  obtain ⟨es, q, ws0, e1, e2, bq, b0q, nq, hq, raq, h⟩ := r.own h
  refine it.ok r h _ fun J ds H1 t1 x1 k1 h1 sq => ?_
  obtain ⟨hl, I, i0, is, ie⟩ := h1
  intro L nL
  have r1 := r.up x1 k1
  have nB : ¬ B L := r1.al.new nL
  have nP : ¬ m.pl L := fun z => nB (r.pb L z)
  have n0 : ¬ B0 L := fun z => nB (r.b0 L z)
  have f1 : Fr m B0 H0 B H1 B H1 := (f.step r x1).here r1
  have eself : e.set j (.own es) = e := by
    obtain ⟨hlt, he⟩ := List.getElem?_eq_some_iff.mp e1
    rw [← he]
    exact List.set_getElem_self hlt
  have jl : j < e.length := (List.getElem?_eq_some_iff.mp e1).1
  refine ⟨fun i mm H' => mm = ds.length - i ∧ i ≤ ds.length ∧ ∃ l acc ws t', I i l acc t' ∧ Fr m B0 H0 B H1 (Bp B L) H' ∧ Rep K m B0 (Bp B L) (e.set j (.own l)) σ H' t' ∧ H' L = some (.lst ws) ∧ RpA K (Bp B L) H' acc ws ∧ acc.length ≤ i, ⟨ds.length, by simp, Nat.zero_le _, es, [], [], t1, i0, f1.new r1 nL (m.xs k1 (same_new nL)), ?_, upd_same, RpA.nil, Nat.le_refl _⟩, ?_⟩
  · rw [eself]
    exact r1.under nL (m.xs k1 (same_new nL)) (m.same k1 (same_new nL)) (by rw [upd_same]; first | exact trivial | simp)
  rintro i mm H' ⟨rfl, hi, l, acc, ws, t', hI, f', rep, hL, ra, hal⟩
  obtain ⟨sg, ss, sy⟩ := f'.sq rep sq
  by_cases hlt : i < ds.length
  · refine .inr ⟨sg i hlt, fun H'' => ∃ l acc ws t', I (i + 1) l acc t' ∧ Fr m B0 H0 B H1 (Bp B L) H'' ∧ Rep K m B0 (Bp B L) (e.set j (.own l)) σ H'' t' ∧ H'' L = some (.lst ws) ∧ RpA K (Bp B L) H'' acc ws ∧ acc.length ≤ i + 1, fun H'' p => ⟨ds.length - (i + 1), by omega, rfl, hlt, p⟩, fun x H3 y => ?_⟩
    obtain ⟨s3, rx⟩ := sy i ds[i] x H3 (List.getElem?_eq_getElem hlt) y
    have rep3 := rep.same s3
    have f3 := f'.step rep (m.xs rep.ok s3)
    have ra3 := ra.up (Xt.of rep.al s3)
    refine g.ok (rep3.wipe vs) rx (is i ds[i] l acc t' (List.getElem?_eq_getElem hlt) hI) _ fun e2' σ2 hk2 rep4 hln hof => ⟨?_, ?_⟩
    · have e1 : L2.wipe σ2 vs = L2.wipe (L2.wipe σ vs) vs := wipe_eq hln fun j hj => hof j fun z => hj (hs j z)
      rw [e1]
      exact wipe_eq (wipe_length _ _) fun j hj => wipe_off hj
    · have sj : σ2[j]? = some (some (.ref q)) := by
        rw [hof j fun z => hj (hs j z), wipe_off hj]
        exact e2
      have ej : (e.set j (.own l))[j]? = some (.own l) := List.getElem?_set_self jl
      obtain ⟨l', p', us, g1, g2, bp', b0', np', hp', raP, rfl⟩ := rep3.own (i := j) (k := fun l' => l' = l) (by rw [ej]; exact rfl)
      obtain rfl : p' = q := by
        rw [e2] at g2
        cases g2
        rfl
      have LnQ : L ≠ p' := fun z => nB (z ▸ bq)
      dsimp only [tYes]
      rw [if_pos rfl]
      obtain ⟨H4, hH4⟩ : ∃ H4, H4 = H3 := ⟨_, rfl⟩
      subst hH4
      have x4 : Xt m.pl H4 H4 := Xt.refl (m.al rep3.ok)
      have k4 := rep3.ok
      have rep5 := rep4
      have rep3' := rep3
      have f4 := f3
      have hp4 : H4 p' = some (.lst us) := x4.kp _ _ np' hp'
      refine ⟨.ref p', sj, .inl ⟨rfl, _, SqL.of hp4⟩, a.ok rep5 hk2 _ fun us' ys H5 t5 x5 k5 h5 r5 => ?_⟩
      obtain ⟨n, rfl, d, ⟨n0', n1, n2⟩, hd, h6⟩ := unI1_of h5
      obtain ⟨v, w, rfl, q1, q2⟩ := rpa_cons.mp r5
      obtain rfl := rpa_nil.mp q2
      obtain rfl := rp_int.mp q1
      have rep6 := rep3'.up x5 k5
      have f5 := f4.step rep3' x5
      have raP5 := (raP.up (rep3.wd x4)).up (rep3'.wd x5)
      have ra5 := (ra3.up (rep3.wd x4)).up (rep3'.wd x5)
      obtain ⟨y', hy', ry⟩ := raP5.get hd
      have lu : us.length = l'.length := raP.length.symm
      have hL5 : H5 L = some (.lst ws) := x5.kp _ _ nP (x4.kp _ _ nP (s3 _ _ hL))
      refine ⟨p', us, n, n.toNat, y', rfl, rfl, x5.kp _ _ np' hp4, by omega, by omega, seqIx_nn n0' (by omega), hy', ?_⟩
      have s6 := rep6.put (es := l'.eraseIdx n.toNat) (ws := us.eraseIdx n.toNat) ej e2 bp' np' (RpA.erase raP5)
      have f6 := f5.put rep6 bp' b0' np' (o := us.eraseIdx n.toNat)
      have xq : Xt (Bp B L) H5 (upd H5 p' (.lst (us.eraseIdx n.toNat))) := ⟨fun a o nb z => by rw [upd_ne (fun w => nb (by rw [w]; exact bp'))]; exact z, s6.al⟩
      have hL6 : (upd H5 p' (.lst (us.eraseIdx n.toNat))) L = some (.lst ws) := by rw [upd_ne LnQ]; exact hL5
      refine ⟨ws, hL6, ?_, l'.eraseIdx n.toNat, acc ++ [d], ws ++ [y'], t5, h6, f6.put s6 (.inr rfl) n0 nP, ?_, upd_same, ?_, by rw [List.length_append]; show acc.length + 1 ≤ _; omega⟩
      · rw [← ra.length]
        exact Nat.lt_of_lt_of_le (show acc.length < 1000001 by omega) (by decide)
      · rw [List.set_set] at s6
        refine s6.other (.inr rfl) nP fun i ds hi => ?_
        by_cases z : j = i
        · subst z
          rw [e2]
          intro w
          cases w
          exact LnQ rfl
        · rw [List.getElem?_set_ne z] at hi
          obtain ⟨_, u, _, _, g4, bu, _⟩ := r.own (i := i) (k := fun _ => True) (by rw [hi]; trivial)
          rw [g4]
          intro w
          cases w
          exact nB bu
      · exact RpA.append ((ra5.up xq).up (xt_put s6.al)) (.cons ((ry.up xq).up (xt_put s6.al)) .nil)
  · have e1 : i = ds.length := by omega
    subst e1
    refine .inl ⟨ss, ?_⟩
    obtain ⟨ns, rfl, hk⟩ := ie l acc t' hI
    obtain rfl := RpA.ints_inv ra
    refine ⟨L, _, rfl, SqL.of hL, fun z ob nz hc hd => ?_⟩
    have sz := same_new (o := .frz ob (.tup (ns.map V.int))) nz
    exact crt z _ ns _ _ (f'.x0.trans (m.xs rep.ok sz)) (m.same rep.ok sz) hk upd_same ⟨ob, rfl, hc, hd⟩
/-- a def whose first statement is s and whose last gives such a tuple -/
theorem okDX {P : Program} {w : World} {mg : Str → Option Value} {base : Heap} {x : Str} {st : Stmt} {f : Addr} {fd : FuncData} {N ps : List Str} {k : Nat} {M : Dck → Prop} (h : Has K mg x st ps f fd) (S : FnScope N ps (defScope st)) (s1 : AS K) (p : PmX) (ts2 : TS) (w2 : En → Tq → (List Int → Tq → Prop) → Prop)
    (h2 : ∀ {m : Dck} {B0 B1 B : Addr → Prop} {H0 H1 H : Hp} {Dd : Ends} {kx : List Int → Tq → Prop} {e : En} {σ : L2.St} {t : Tq}, Fr m B0 H0 B1 H1 B H → Rep K m B0 B e σ H t → w2 e t kx → (∀ z o ns H' t', Xt m.pl H0 H' → m.ok H' t' → kx ns t' → H' z = some o → ExO o ns → Dd.rt (.ref z) H') → ts2 Dd σ H)
    (hb : ∀ (cd : Value) (A : Around) (out : List Env) (s : Shared) (H : Hp) (E : XK), A.guards = some [] → Room k (A.deeper (envOfC x (defScope st) s.heap.objs.size f cd)) → ∃ ts, PSs (cxOf CX0 P w K mg base N x (defScope st) f cd A out s H E).nox (defBody st) ts ∧ ts = tSeq s1.ts ts2)
    (hw : ∀ ds t (kk : List Int → Tq → Prop), p.w ds t kk → ds.length + 1 = ps.length ∧ s1.wp (startE N (.deck M :: ds.map Sl.dat)) t { nx := fun e' t' => w2 e' t' kk, rt := fun _ _ => False }) : FnG P w K mg base CX0 (k + 1) f fd ps (spDX K M p) := by
  refine okG h.F S (fun vs H Q E h => ?_) (fun cd A out s H vs Q E hgd hr h => ?_)
  · obtain ⟨m, B, t, ds, ws, rfl, hM, al, pb, ok, ra, hp⟩ := h
    rw [List.length_cons, ← ra.length]
    exact (hw ds t _ hp).1
  · obtain ⟨m, B, t, ds, ws, rfl, hM, al, pb, ok, ra, hp⟩ := h
    obtain ⟨ts, hts, rfl⟩ := hb cd A out s H E hgd hr
    refine ⟨_, hts, ?_⟩
    have r : Rep K m B B (startE N (.deck M :: ds.map Sl.dat)) (L2.start N (.ref m.D :: ws)) H t := rep_args al pb ok (by rw [List.length_cons, List.length_cons, List.length_map, ra.length]) (fun i => by
      cases i with
      | zero => exact ⟨rfl, hM⟩
      | succ i =>
        rw [List.getElem?_cons_succ, List.getElem?_cons_succ]
        exact rep_dats ra i) (fun x hx es => by
      rcases List.mem_cons.mp hx with rfl | hx
      · intro z
        cases z
      · obtain ⟨d, _, rfl⟩ := List.mem_map.mp hx
        intro z
        cases z)
    refine s1.ok (B1 := B) (H1 := H) (k := { nx := fun e' t' => w2 e' t' _, rt := fun _ _ => False }) (Dd := { nx := ts2 { nx := fun _ H' => Q .non H', rt := Q }, rt := Q }) ⟨fun f r h => h2 f r h fun z o ns H' t' x1 ok' hk hz ho => hk z o H' x1 ok' hz ho, fun _ _ h => h.elim, fun _ _ h => h.elim, fun _ _ h _ => h.elim⟩ ⟨⟨fun _ h => h, fun _ h => .inl h⟩, Xt.refl (m.al ok), fun _ h => .inl h, Xt.refl al⟩ r (hw ds t _ hp).2
end
end CG
namespace CG
open PySem PySem.Spec PyProof.Rows L2
theorem walkH {l : PySem.W.OpenLaw} {n k : Nat} {q : Program} {lo : List Str} {XP : (Str → Option Value) → Heap → Prop} {YP : World → Heap → Prop}
    {d : DefRec} {cx : CXT} {x : Str}
    (hn : l.most = some n) (hn2 : n ≤ sizeLine) (hdf : d.params.defaults = []) (hr : Room k callerA)
    (F : ∀ (w : World) (mg : Str → Option Value) (fa : Addr) (h : Heap), YP w h → h.Ns mainGlobals mg → mg d.name = some (.ref fa) →
      ∃ (K : PySem.W.Frag) (fd : FuncData) (sp : Sp), K.In h ∧ (∀ (s : Shared) (u : Value), BindsTo s fd ⟨[u], []⟩ [(x, u)]) ∧
        (∀ (H : Hp) (a : Addr) (ns : List Int), ns.length ≤ n → Only H → SqL K H a (ns.map V.int) → sp [.ref a] H (fun v _ => v = .bl true) fun _ _ _ => False) ∧
        ∀ ba : Heap, K.In ba → ba.Ns mainGlobals mg → FnG l.prog w K mg ba cx k fa fd [x] sp)
    (hCX : ∀ (H : Hp) (s : Shared) (e : Value) (s' : Shared), cx [] H s (fun _ _ _ => False) e s' → False) :
    PySem.W.WalkO q lo XP YP l.row.toRowW d [] (fun f vs => PySem.call f vs) := by
  refine Att.attach_call hn hdf fun w s0 s1 mg mb fa o pm cd doc a vs ns G Y ho hd hcd hmg hobj hints hlen hg => ?_
  obtain ⟨K, fd, sp, kin, hb, hsp, hF⟩ := F w mg fa _ Y G.T.g hmg
  exact lawG kin G.T.g G.T.b G.T.builtins G.T.nolimit hg hobj hints (Nat.le_trans hlen hn2) hr hF hb (fun H hO hS => hsp H a ns hlen hO hS) fun H e s' => hCX H s1 e s'
theorem hObs_eq {n : Nat} {fa : List (PySem.W.Frag → Bool)} {fn : List He.FnD} (s : PySem.W.SharedT) : hObsG n fa fn (HandSHeadRun.getT s) = (hHook n fa fn).obs s.abs := by
  have e : HandSHeadRun.getT s = s.abs.heap.get? := funext (HandSHeadRun.getT_eq s)
  rw [e] <;> rfl
section
variable {fa : List (PySem.W.Frag → Bool)} {fn : List He.FnD} {K : PySem.W.Frag}
theorem HSays.fact (c : HSays fa fn K) (i : Nat) {f : PySem.W.Frag → Bool} (h : fa[i]? = some f := by rfl) : f K = true := by
  have c1 := (He.ba (show ((fa.all fun f => f K) && fn.all fun d => (He.Fa.code d.at_ d.qual).ok K) = true from congrArg (fun z : HAl => z.1) c)).1
  exact List.all_eq_true.mp c1 f (List.mem_of_getElem? h)
theorem HSays.def_ (c : HSays fa fn K) (i : Nat) {d : He.FnD} (h : fn[i]? = some d := by rfl) :
    ∃ oc od osl kV doc pm an cdv ct, K.lookup (He.fAd K d.at_) = some ⟨oc, od, .func (PySem.W.fnOf d.name d.qual d.params d.body d.scope .none kV doc pm an cdv ct), osl⟩ ∧ PySem.W.codeIn K cdv d.qual = true := by
  have c2 := (He.ba (show ((fa.all fun f => f K) && fn.all fun d => (He.Fa.code d.at_ d.qual).ok K) = true from congrArg (fun z : HAl => z.1) c)).2
  have e : fn.map (fun d => He.fnObs K d.at_) = fn.map He.FnD.val := congrArg (fun z : HAl => z.2) c
  have e2 : (fn.map fun d => He.fnObs K d.at_)[i]? = (fn.map He.FnD.val)[i]? := by rw [e]
  rw [List.getElem?_map, List.getElem?_map, h] at e2
  exact He.fn_ok (Option.some.inj e2) (List.all_eq_true.mp c2 d (List.mem_of_getElem? h))
end
end CG
namespace CG
open PySem PySem.Spec PyProof.Rows L2
local macro_rules
  | `(tactic| simp_all only [$xs,*]) => `(tactic| try simp only [w_AE_var, w_AE_int, w_AE_bl, w_AE_op, w_AE_un, w_AA_nil, w_AA_cons, w_AE_tup, w_AE_lst, w_AE_cb, w_AE_call, w_AE_callD, w_AT_test, w_AT_b, w_AT_not, w_AT_or, w_AT_yes, w_AO_none, w_AO_some, w_AI_tup, w_AI_rng, w_AG_name, w_AGs_nil, w_AGs_cons, w_AG_tup, w_AF_ae, w_AF_lst, w_AF_lc, w_AE_view, w_AE_ownIx, w_AE_ownSl, w_AS_nop, w_AS_seq, w_AS_set, w_AS_asg, w_AS_par, w_AS_ret, w_AS_ifS, w_AS_for, w_AS_setOwn, w_AS_append, w_AF_lstRg, w_AS_parB, f_aAdd, f_aMul, f_aEq, f_aNe, f_aIsN, f_aNotN, f_aIx, f_aNeg, f_aLen, f_aRepr, f_aInt, f_aIn, f_aNotIn, f_aIsB, f_aIsNotB, f_aTup, f_aI, f_aI0, f_aB0, f_aMin, f_aMax, q_inL, q_inT, q_notInL, q_notInT, q_isB, q_isNotB, q_addI, q_addT, q_addL, q_int, q_int0, q_bool0, q_mulI, q_mulT, q_mulL, q_eqI, q_eqS, q_neI, q_neS, q_isN, q_notN, q_ixT, q_ixL, q_neg, q_lenT, q_lenL, q_repr, q_two, q_intB, q_tupT, q_tupL, q_slT, q_slL, q_unB, q_unI, q_unT, q_unL, q_unI1, q_unI2, q_unT1, q_unS1T, q_unS1L, q_un1, q_un2, q_un3, q_hd, q_rd, q_ow, q_ctrT, q_ctrI, q_ctrS, q_ctrS2, q_brdT, q_brd0, q_brd1, q_rowI, q_rowT, q_rowT1, q_rowL, q_at0, q_at1, q_at2, q_at3, w_exa, w_XEvar, w_XEtupRg, w_XErevT, w_XEcallD, w_setX, w_tix, w_XAnil, w_XAcons, w_forX, wipeE, List.getElem?_cons_zero, List.getElem?_cons_succ, List.set_cons_zero, List.set_cons_succ, if_true, Bool.false_eq_true, if_false, true_and, and_true, Lim, dkS_deck, List.length_cons, List.length_nil, Nat.reduceAdd, Nat.reduceLeDiff, Nat.zero_le, Nat.zero_add, Int.reduceLT, Int.reduceLE, Int.reducePow, Int.reduceNeg, eq_self, decide_true, Bool.not_true, Bool.not_false, q_neB, q_eqB, q_isiR, q_rtT, q_rtT1, q_rtL, q_rtS0, q_rtS1, q_rtI, q_rtA, viewE_cons, viewE_nil, viewS_own, viewS_dat, viewS_deck, flat_int, flat_bool, flat_str, List.cons_append, List.nil_append, $xs,*])
local macro_rules
  | `(tactic| simp_all [$xs,*]) => `(tactic| try simp only [t_AE_var, t_AE_int, t_AE_bl, t_AE_op, t_AE_un, t_AA_nil, t_AA_cons, t_AE_tup, t_AE_lst, t_AE_cb, t_AE_call, t_AE_callD, t_AT_test, t_AT_b, t_AT_not, t_AT_or, t_AT_yes, t_AO_none, t_AO_some, t_AI_tup, t_AI_rng, t_AG_name, t_AGs_nil, n_AGs_nil, t_AGs_cons, n_AGs_cons, t_AG_tup, t_AF_ae, t_AF_lst, t_AF_lc, t_AE_view, t_AE_ownIx, t_AE_ownSl, t_AS_nop, t_AS_seq, t_AS_set, t_AS_asg, t_AS_par, t_AS_ret, t_AS_ifS, t_AS_for, t_AS_setOwn, t_AS_append, t_AF_lstRg, t_AS_parB, t_aAdd, t_aMul, t_aEq, t_aNe, t_aIsN, t_aNotN, t_aIx, t_aNeg, t_aLen, t_aRepr, t_aInt, t_aIn, t_aNotIn, t_aIsB, t_aIsNotB, t_aTup, t_aMin, t_aMax, t_aI, t_aI0, t_aB0, t_exa, t_XEvar, t_XEtupRg, t_XErevT, t_XEcallD, t_setX, t_tix, t_XAnil, t_XAcons, t_forX, $xs,*])
noncomputable abbrev NscPRenamed_counters : List Str := ["counters", "names", "source", "to", "give", "get"]
theorem scPRenamed_counters : FnScope NscPRenamed_counters ["counters", "names"] (defScope sPRenamed_counters) := ⟨rfl, rfl, rfl, by decide +kernel, rfl, by decide +kernel, by decide +kernel⟩
noncomputable abbrev NscPRenamed : List Str := ["board", "names", "kinds", "counters"]
theorem scPRenamed : FnScope NscPRenamed ["board", "names"] (defScope sPRenamed) := ⟨rfl, rfl, rfl, by decide +kernel, rfl, by decide +kernel, by decide +kernel⟩
noncomputable abbrev NscDeck : List Str := ["_law_script", "_law_cell"]
theorem scDeck : FnScope NscDeck ["_law_script"] (defScope sDeck) := ⟨rfl, rfl, rfl, by decide +kernel, rfl, by decide +kernel, by decide +kernel⟩
noncomputable abbrev NscDraw : List Str := ["_law_deck_here", "_law_limit", "_law_cell", "_law_index"]
theorem scDraw : FnScope NscDraw ["_law_deck_here", "_law_limit"] (defScope sDraw) := ⟨rfl, rfl, rfl, by decide +kernel, rfl, by decide +kernel, by decide +kernel⟩
noncomputable abbrev NscSame : List Str := ["_law_value", "_law_due"]
theorem scSame : FnScope NscSame ["_law_value", "_law_due"] (defScope sSame) := ⟨rfl, rfl, rfl, by decide +kernel, rfl, by decide +kernel, by decide +kernel⟩
noncomputable abbrev NscCounter : List Str := ["_law_deck_here", "_law_kinds", "_law_source", "_law_step", "_law_give"]
theorem scCounter : FnScope NscCounter ["_law_deck_here", "_law_kinds"] (defScope sCounter) := ⟨rfl, rfl, rfl, by decide +kernel, rfl, by decide +kernel, by decide +kernel⟩
noncomputable abbrev NscBoard : List Str := ["_law_deck_here", "_law_most", "_law_many", "_law_kinds", "_law_found", "_law_k"]
theorem scBoard : FnScope NscBoard ["_law_deck_here", "_law_most", "_law_many"] (defScope sBoard) := ⟨rfl, rfl, rfl, by decide +kernel, rfl, by decide +kernel, by decide +kernel⟩
noncomputable abbrev NscNames : List Str := ["_law_deck_here", "_law_count", "_law_left", "_law_k"]
theorem scNames : FnScope NscNames ["_law_deck_here", "_law_count"] (defScope sNames) := ⟨rfl, rfl, rfl, by decide +kernel, rfl, by decide +kernel, by decide +kernel⟩
noncomputable abbrev NscLaw : List Str := ["_law_script", "_law_deck_here", "_law_turn", "_law_board_here", "_law_plain", "_law_names_here", "_law_before", "_law_rows", "_law_source", "_law_to", "_law_give", "_law_get", "_law_due", "_law_found", "_law_back", "_law_again", "_law_kind"]
theorem scLaw : FnScope NscLaw ["_law_script"] (defScope sLaw) := ⟨rfl, rfl, rfl, by decide +kernel, rfl, by decide +kernel, by decide +kernel⟩
noncomputable def drawW (ds : List PyData) (t : Tq) (k : PK) : Prop := unI1 ds fun n => (0 < n ∧ n < 1125899906842624) ∧ t.n < Lim ∧ ∀ r, 0 ≤ r → r < n → k (.int r) (t.up 1)
noncomputable def p_draw : Pm := ⟨drawW, fun {ds t k k'} h w => by
  unfold drawW at w ⊢
  obtain ⟨n, rfl, h1, h2, h3⟩ := unI1_of w
  exact ⟨h1, h2, fun r r0 r1 => h _ _ (h3 r r0 r1)⟩⟩
section
variable {P : Program} {w : World} {K : PySem.W.Frag} {mg : Str → Option Value} {base : Heap}
theorem ok_deck0 {f : Addr} {fd : FuncData} (h : Has K mg "_law_deck" sDeck ["_law_script"] f fd) (T : Bz mg) : FnG P w K mg base CX0 1 f fd ["_law_script"] (spDeck K) := by
  refine okG h.F scDeck (fun vs H Q E h => ?_) (fun cd A out s H vs Q E hgd hr h => ?_)
  · obtain ⟨a, ns, rfl, _⟩ := h
    rfl
  · obtain ⟨a, ns, rfl, hS, q⟩ := h
    refine ⟨_, (pss_one (ps_ret (pe_lst (pa_cons (pe_lc (own := [("_law_cell", 1)]) rfl scDeck.nd (pi_list (pe_slice (r := rSlU K) sl_U (pv 0) po_none (po_some pe_int))) (blkOk_by (N := NscDeck) (sc := defScope sDeck) (by decide +kernel)) (fun _ _ _ _ _ => (pg_name (i := 1) scDeck.nd rfl (Or.inl rfl))) (fun _ _ _ _ _ => pts_nil) (fun _ _ _ _ _ => (pe_callB call_abs rfl T.z_abs boot_abs (pa_cons (pv 1) pa_nil)))) (pa_cons pe_int pa_nil))))), ?_⟩
    refine ⟨.ref a, rfl, 63, rfl, .inl ⟨a, _, rfl, hS, fun c nc => ?_⟩⟩
    have e1 : Same H (upd H c (.lst (cutV (ns.map V.int) none (some 63)))) := same_new nc
    have ec : cutV (ns.map V.int) none (some 63) = (ns.take 63).map V.int := by
      unfold cutV
      rw [HT.sIx_none, show HT.sIx (ns.map V.int).length (ns.map V.int).length (some 63) = min 63 (ns.map V.int).length from HT.sIx_nat _ _ 63, List.drop_zero, Nat.sub_zero, List.map_take]
      rw [List.take_eq_take_iff]
      omega
    rw [ec]
    rw [ec] at e1
    have hml : (ns.take 63).length ≤ 63 := by rw [List.length_take]; omega
    clear ec
    generalize ns.take 63 = ms at e1 hml ⊢
    refine ⟨c, rfl, ⟨_, SqL.of upd_same⟩, fun L nL => ?_⟩
    refine lc_list (xs := ms.map V.int) (fun i H' => Same H H' ∧ H' c = some (.lst (ms.map V.int)) ∧ H' L = some (.lst (((ms.take i).map fun z => if z < 0 then -z else z).map V.int))) ?_ ?_ ?_ ?_
    · refine ⟨e1.trans (same_new nL), ?_, ?_⟩
      · rw [upd_ne (ne_of_none upd_same nL)]
        exact upd_same
      · rw [upd_same]
        rfl
    · rintro i H' _ ⟨_, hc, _⟩
      exact SqL.of hc
    · rintro i x H' gx ⟨e', hc, hL⟩
      rw [List.getElem?_map] at gx
      cases gz : ms[i]? with
      | none => rw [gz] at gx; cases gx
      | some z =>
        rw [gz] at gx
        cases gx
        have hi : i < ms.length := (List.getElem?_eq_some_iff.mp gz).1
        have hLn : H L = none := e1.free nL
        refine ⟨rfl, ?_⟩
        refine ⟨.int z, rfl, z, rfl, _, hL, ?_, ?_, ?_, ?_⟩
        · rw [List.length_map, List.length_map, List.length_take]
          exact Nat.lt_of_le_of_lt (show min i ms.length ≤ 63 by omega) (by decide)
        · intro b o eb
          rw [upd_ne (ne_of_none eb hLn)]
          exact e' b o eb
        · rw [upd_ne (fun z => ?_)]
          · exact hc
          · subst z
            rw [upd_same] at nL
            cases nL
        · rw [upd_same, List.take_add_one, gz]
          simp only [Option.toList_some, List.map_append, List.map_cons, List.map_nil]
    · rintro H' ⟨e', hc, hL⟩
      refine ⟨by show 2 ≤ sizeLine; decide, fun D nD => ?_⟩
      have hLn : H L = none := e1.free nL
      have hDn : H D = none := by
        cases q : H D with
        | none => rfl
        | some o => rw [e' D o q] at nD; cases nD
      refine q D L _ (fun b o eb => ?_) hDn hLn ⟨.inl rfl, .inr rfl, fun a h => ?_, fun z => ?_, by omega, ((ms.take (ms.map V.int).length).map fun z => if z < 0 then -z else z), upd_same, ?_, ?_, ?_⟩
      · rw [upd_ne (ne_of_none eb hDn)]
        exact e' b o eb
      · rcases h with rfl | rfl
        · rw [upd_same]; exact trivial
        · rw [upd_ne (ne_of_none hL nD), hL]; exact trivial
      · subst z
        rw [hL] at nD
        cases nD
      · rw [upd_ne (ne_of_none hL nD)]
        exact hL
      · rw [List.length_map, List.length_take]
        omega
      · intro z hz
        obtain ⟨y, _, rfl⟩ := List.mem_map.mp hz
        split <;> omega
theorem ok_deck {f : Addr} {fd : FuncData} (h : Has K mg "_law_deck" sDeck ["_law_script"] f fd) (T : Bz mg) : FnG P w K mg base CX0 1 f fd ["_law_script"] (spM K MB) :=
  (ok_deck0 h T).imp fun vs H Q E ⟨a, ns, e, hS, q⟩ => ⟨a, ns, e, hS, fun D C H' _ _ _ dk => q (dkB D C) H' mb_dkB dk⟩
theorem do_set {te : TE} {g : TG} {u : TS} {Dd : Ends} {σ : L2.St} {H : Hp} (h : te σ H fun v H1 => g v σ H1 (u Dd)) : tSeq (tAsg te g) u Dd σ H := h
theorem do_if {tt : TT} {a b u : TS} {Dd : Ends} {σ : L2.St} {H : Hp} (h : tt σ H fun z H1 => if z = true then a { Dd with nx := u Dd } σ H1 else b { Dd with nx := u Dd } σ H1) : tSeq (tIfS tt a b) u Dd σ H := h
theorem same_of {H H1 : Hp} (x : Xt Dck.no.pl H H1) : Same H H1 := fun a o e => x.kp a o (fun z => z) e
theorem ok_draw {f : Addr} {fd : FuncData} (h : Has K mg "_law_draw" sDraw ["_law_deck_here", "_law_limit"] f fd) (T : Bz mg) : FnG P w K mg base CX0 1 f fd ["_law_deck_here", "_law_limit"] (spD K MB p_draw) := by
  refine okG h.F scDraw (fun vs H Q E h => ?_) (fun cd A out s H vs Q E hgd hr h => ?_)
  · obtain ⟨m, B, t, ds, ws, rfl, hM, al, pb, ok, ra, hp⟩ := h
    obtain ⟨n, rfl, _⟩ := unI1_of hp
    rw [List.length_cons, ← ra.length]
    rfl
  · obtain ⟨m, B, tq, ds, ws, rfl, ⟨C, mb⟩, al, pb, okm, ra, hp⟩ := h
    have ok := mb.get okm
    obtain ⟨n, rfl, ⟨n0, n1⟩, tl, hk⟩ := unI1_of hp
    obtain rfl : ws = [.int n] := RpA.ints_inv (ns := [n]) ra
    obtain ⟨D, eD⟩ : ∃ D, m.D = D := ⟨_, rfl⟩
    obtain ⟨t, et⟩ : ∃ t, tq.n = t := ⟨_, rfl⟩
    rw [eD, et] at ok
    rw [et] at tl
    rw [eD]
    obtain ⟨_, _, al2, ne, nn, cs, hD, hC, hlen, hcs⟩ := ok
    have fin : ∀ (H2 : Hp) (r : Int) (cs2 : List Int), (∀ b o, b ≠ D → b ≠ C → H b = some o → H2 b = some o) → H2 D = some (.lst [.ref C, .int (t + 1)]) → H2 C = some (.lst (cs2.map V.int)) →
        cs2.length ≤ 63 → (∀ c ∈ cs2, 0 ≤ c) → 0 ≤ r → r < n → Q (.int r) H2 := fun H2 r cs2 k1 k2 k3 k4 k5 r0 r1 => by
      have al3 : Al (Bk D C) H2 := fun a h => by
        rcases h with rfl | rfl
        · rw [k2]; exact trivial
        · rw [k3]; exact trivial
      have y3 : Xt (Bk m.D C) H H2 := by
        rw [eD]
        exact ⟨fun a o nb e => k1 a o (fun z => nb (.inl z)) (fun z => nb (.inr z)) e, al3⟩
      have d3 : Dk (Bk m.D C) H2 m.D C (t + 1) := by
        rw [eD]
        exact ⟨.inl rfl, .inr rfl, al3, ne, by omega, cs2, k2, k3, k4, k5⟩
      refine hk r r0 r1 (.int r) H2 ⟨fun a o nb e => y3.kp a o (fun z => nb (mb.bk a z)) e, fun a pa => ?_⟩ (by rw [← et] at d3; exact mb.put okm y3 d3) (rp_int.mpr rfl)
      by_cases z : Bk m.D C a
      · exact y3.al a z
      · have lv := m.live okm pa
        cases q : H a with
        | none => exact absurd q lv.ne
        | some o =>
          rw [q] at lv
          rw [y3.kp a o z q]
          exact lv
    have nb : ∀ {H' : Hp} {cs' : List Int} {t' : Int}, H' D = some (.lst [.ref C, .int t']) → H' C = some (.lst (cs'.map V.int)) → Rp K (fun _ => False) H' (.list [.list (cs'.map PyData.int), .int t']) (.ref D) := fun {H' cs' t'} h1 h2 =>
      rp_lst.mpr ⟨D, _, rfl, fun z => z, h1, .cons (rp_lst.mpr ⟨C, _, rfl, fun z => z, h2, RpA.ints cs'⟩) (.cons (rp_int.mpr rfl) .nil)⟩
    have rep0 : ∀ {H' : Hp} {t' : Int}, H' D = some (.lst [.ref C, .int t']) → H' C = some (.lst (cs.map V.int)) →
        Rep K .no (fun _ => False) (fun _ => False) [.dat (.list [.list (cs.map PyData.int), .int t']), .dat (.int n), .un, .un] [some (.ref D), some (.int n), none, none] H' 0 := fun {H' t'} h1 h2 =>
      rep_args (m := .no) (B := fun _ => False) (N := NscDraw) (xs := [.dat (.list [.list (cs.map PyData.int), .int t']), .dat (.int n)]) (vs := [.ref D, .int n]) (fun _ z => z.elim) (fun _ z => z) trivial rfl
        (rep_dats (ds := [PyData.list [.list (cs.map PyData.int), .int t'], .int n]) (.cons (nb h1 h2) (.cons (rp_int.mpr rfl) .nil))) (fun x hx es => by
        simp only [List.mem_cons, List.not_mem_nil, or_false] at hx
        rcases hx with rfl | rfl <;> (intro z; cases z))
    refine ⟨_, (pss_cons (ps_asg (pe_op (r := rAddU K) op_addU (pe_ix (r := rIx K) ix_seq (pv 0) pe_int (fun _ _ => rfl)) pe_int) (pg_sub (pv 0) pe_int set_list))
      (pss_cons (ps_asg (pe_tup (pa_cons pe_int (pa_cons (pe_un un_neg pe_int) pa_nil))) (pg_tup rfl (pgs_cons (pg_name (i := 2) scDraw.nd rfl (Or.inl rfl)) (pgs_cons (pg_name (i := 3) scDraw.nd rfl (Or.inl rfl)) pgs_nil))))
      (pss_cons (ps_if (pt_cmpR op_gt (pe_callB (r := rLenU K) call_lenU rfl T.z_len PySem.boot_len (pa_cons (pe_ix (r := rIx K) ix_seq (pv 0) pe_int (fun _ _ => rfl)) pa_nil)) pe_int (nomark _))
        (pss_cons (ps_set (i := 3) scDraw.nd rfl (Or.inl rfl) (pe_op op_mod (pe_ix (r := rIx K) ix_seq (pv 0) pe_int (fun _ _ => rfl)) (pe_callB (r := rLenU K) call_lenU rfl T.z_len PySem.boot_len (pa_cons (pe_ix (r := rIx K) ix_seq (pv 0) pe_int (fun _ _ => rfl)) pa_nil))))
        (pss_one (ps_set (i := 2) scDraw.nd rfl (Or.inl rfl) (pe_ix (r := rIx K) ix_seq (pe_ix (r := rIx K) ix_seq (pv 0) pe_int (fun _ _ => rfl)) (pv 3) (fun _ _ => rfl)))))
        pss_nil)
      (pss_cons (ps_if (pt_cmpR op_ge (pv 2) (pe_op op_pow pe_int pe_int) (nomark _))
        (pss_cons (ps_asg (pe_op op_dvU (pv 2) (pv 1)) (pg_sub (pe_ix (r := rIx K) ix_seq (pv 0) pe_int (fun _ _ => rfl)) (pv 3) set_list))
        (pss_one (ps_ret (pe_op op_mod (pv 2) (pv 1)))))
        pss_nil)
      (pss_one (ps_ret (pe_op op_mod (pe_op op_dvU (pe_op op_mod (pe_op op_pow (pe_op (r := rAddU K) op_addU (pe_op (r := rAddU K) op_addU (pe_op op_mod (pv 2) pe_int) (pe_op (r := rMulU K) op_mulU pe_int (pe_ix (r := rIx K) ix_seq (pv 0) pe_int (fun _ _ => rfl)))) pe_int) pe_int) pe_int) pe_int) (pv 1)))))))), ?_⟩
    rw [show L2.start NscDraw [V.ref D, V.int n] = [some (.ref D), some (.int n), none, none] from rfl]
    refine (AE.op (aAdd K) (AE.op (aIx K) (AE.var K 0) (AE.int K 1)) (AE.int K 1)).ok (k := fun d _ => d = .int (t + 1)) (rep0 hD hC) ⟨.int t, rfl, rfl⟩ _ fun v d H1 t1 x1 _ hd rv => ?_
    subst hd
    obtain rfl := rp_int.mp rv
    have s1 := same_of x1
    obtain ⟨H2, hH2⟩ : ∃ H2, H2 = upd H1 D (.lst [.ref C, .int (t + 1)]) := ⟨_, rfl⟩
    have hD2 : H2 D = some (.lst [.ref C, .int (t + 1)]) := by rw [hH2]; exact upd_same
    have hC2 : H2 C = some (.lst (cs.map V.int)) := by
      rw [hH2, upd_ne ne.symm]
      exact s1 _ _ hC
    have kD : ∀ b o, b ≠ D → H b = some o → H2 b = some o := fun b o nb e => by rw [hH2, upd_ne nb]; exact s1 _ _ e
    have eH : upd H1 D (.lst ([V.ref C, V.int t].set 1 (V.int (t + 1)))) = H2 := hH2.symm
    refine ⟨.ref D, rfl, D, [.ref C, .int t], 1, 1, rfl, rfl, s1 _ _ hD, rfl, ?_⟩
    dsimp only
    rw [eH]
    have repc : ∀ {H' : Hp} (c j : Int), H' D = some (.lst [.ref C, .int (t + 1)]) → H' C = some (.lst (cs.map V.int)) → Rep K .no (fun _ => False) (fun _ => False) [.dat (.list [.list (cs.map PyData.int), .int (t + 1)]), .dat (.int n), .dat (.int c), .dat (.int j)] [some (.ref D), some (.int n), some (.int c), some (.int j)] H' 0 := fun {H'} c j h1 h2 =>
      ((rep0 h1 h2).set (i := 2) (d := .int c) (v := .int c) (rp_int.mpr rfl)).set (i := 3) (d := .int j) (v := .int j) (rp_int.mpr rfl)
    have rest : ∀ (c jj : Int) (H4 : Hp), Same H2 H4 → 0 ≤ c → (10 ^ 18 ≤ c → ∃ i : Nat, jj = (i : Int) ∧ cs[i]? = some c) →
        (tSeq (tIfS (AT.test (AE.op (aGe K) (AE.var K 2) (AE.op (aPow K) (AE.int K 10) (AE.int K 18)))).tt (tSeq (tAsg (AE.op (aDv K) (AE.var K 2) (AE.var K 1)).te (gSub (tOp (rIx K) (tVar 0) (tC (.int 0))) (tVar 3) rSetL)) (tRet (AE.op (aMod K) (AE.var K 2) (AE.var K 1)).te)) tNext) (tRet (AE.op (aMod K) (AE.op (aDv K) (AE.op (aMod K) (AE.op (aPow K) (AE.op (aAdd K) (AE.op (aAdd K) (AE.op (aMod K) (AE.var K 2) (AE.int K 2147483587)) (AE.op (aMul K) (AE.int K 7919) (AE.op (aIx K) (AE.var K 0) (AE.int K 1)))) (AE.int K 1)) (AE.int K 5)) (AE.int K 2147483647)) (AE.int K 7)) (AE.var K 1)).te)) { nx := fun _ H' => Q .non H', rt := Q } [some (.ref D), some (.int n), some (.int c), some (.int jj)] H4 := by
      intro c jj H4 s4 c0 cj
      have hD4 := s4 _ _ hD2
      have hC4 := s4 _ _ hC2
      refine do_if ?_
      refine (AT.test (AE.op (aGe K) (AE.var K 2) (AE.op (aPow K) (AE.int K 10) (AE.int K 18)))).ok (k := fun b _ => b = true ↔ 10 ^ 18 ≤ c) (repc c jj hD4 hC4) ⟨⟨by decide, by decide, by decide⟩, by show (decide ((10 : Int) ^ (18 : Int).toNat ≤ c) = true ↔ _); rw [decide_eq_true_iff]; exact Iff.rfl⟩ _ fun b H5 t5 x5 _ hb => ?_
      have s5 := same_of x5
      have hD5 := s5 _ _ hD4
      have hC5 := s5 _ _ hC4
      have kD5 : ∀ b o, b ≠ D → H b = some o → H5 b = some o := fun b o nb e => s5 _ _ (s4 _ _ (kD b o nb e))
      by_cases big : (10 ^ 18 : Int) ≤ c
      · rw [if_pos (hb.mpr big)]
        obtain ⟨j, rfl, gj⟩ := cj big
        have hjl : j < cs.length := (List.getElem?_eq_some_iff.mp gj).1
        refine do_set ?_
        refine (AE.op (aDv K) (AE.var K 2) (AE.var K 1)).ok (k := fun d _ => d = .int (c / n)) (repc c j hD5 hC5) ⟨⟨n0, by show n < 18446744073709551616; omega⟩, rfl⟩ _ fun v d H6 t6 x6 _ hd rv6 => ?_
        subst hd
        obtain rfl := rp_int.mp rv6
        have s6 := same_of x6
        have hD6 := s6 _ _ hD5
        have hC6 := s6 _ _ hC5
        have hix : ixN (cs.map V.int).length (j : Int) = some j := by
          unfold ixN
          rw [List.length_map, if_pos (by omega), if_pos (by omega)]
          simp
        refine ⟨.ref D, rfl, .inl ⟨D, _, 0, .ref C, rfl, rfl, SqL.of hD6, rfl, .int j, rfl, C, _, j, j, rfl, rfl, hC6, hix, ?_⟩⟩
        refine ⟨.int c, rfl, .int n, rfl, _, n, rfl, rfl, n0, ?_⟩
        refine fin _ _ (cs.set j (c / n)) (fun b o b1 b2 e => ?_) ?_ ?_ ?_ ?_ (Int.emod_nonneg _ (by omega)) (Int.emod_lt_of_pos _ n0)
        · rw [upd_ne b2]
          exact s6 _ _ (kD5 b o b1 e)
        · rw [upd_ne ne]
          exact hD6
        · rw [upd_same, List.map_set]
        · rw [List.length_set]
          exact hlen
        · intro z hz
          rcases List.mem_or_eq_of_mem_set hz with hz | rfl
          · exact hcs z hz
          · exact Int.ediv_nonneg c0 (by omega)
      · rw [if_neg (fun z => big (hb.mp z))]
        have p0 : 0 ≤ c % 2147483587 := Int.emod_nonneg _ (by decide)
        have p1 : c % 2147483587 < 2147483587 := Int.emod_lt_of_pos _ (by decide)
        have tl' : t < 1000000000000 := tl
        show (AE.op (aMod K) (AE.op (aDv K) (AE.op (aMod K) (AE.op (aPow K) (AE.op (aAdd K) (AE.op (aAdd K) (AE.op (aMod K) (AE.var K 2) (AE.int K 2147483587)) (AE.op (aMul K) (AE.int K 7919) (AE.op (aIx K) (AE.var K 0) (AE.int K 1)))) (AE.int K 1)) (AE.int K 5)) (AE.int K 2147483647)) (AE.int K 7)) (AE.var K 1)).te [some (.ref D), some (.int n), some (.int c), some (.int jj)] H5 Q
        refine (AE.op (aMod K) (AE.op (aDv K) (AE.op (aMod K) (AE.op (aPow K) (AE.op (aAdd K) (AE.op (aAdd K) (AE.op (aMod K) (AE.var K 2) (AE.int K 2147483587)) (AE.op (aMul K) (AE.int K 7919) (AE.op (aIx K) (AE.var K 0) (AE.int K 1)))) (AE.int K 1)) (AE.int K 5)) (AE.int K 2147483647)) (AE.int K 7)) (AE.var K 1)).ok (k := fun d _ => ∃ z : Int, d = .int z ∧ 0 ≤ z ∧ z < n) (repc c jj hD5 hC5)
          ⟨by show (0 : Int) < 2147483587; decide, .int (t + 1), rfl, .inl ⟨by decide, by decide⟩, ⟨by decide, by decide, ?_⟩, by show (0 : Int) < 2147483647; decide, ⟨by decide, by decide⟩, n0, _, rfl, Int.emod_nonneg _ (by omega), Int.emod_lt_of_pos _ n0⟩ _ fun v d H7 t7 x7 _ hd rv7 => ?_
        · show (c % 2147483587 + 7919 * (t + 1) + 1).natAbs < 2 ^ 64
          omega
        obtain ⟨y, rfl, y0, y1⟩ := hd
        obtain rfl := rp_int.mp rv7
        have s7 := same_of x7
        exact fin H7 y cs (fun b o b1 b2 e => s7 _ _ (kD5 b o b1 e)) (s7 _ _ hD5) (s7 _ _ hC5) hlen hcs y0 y1
    have iff3 : ∀ (H3 : Hp), Same H2 H3 → (tSeq (tIfS (AT.test (AE.op (aGt K) (AE.cb (aLen K) (AA.cons (AE.op (aIx K) (AE.var K 0) (AE.int K 0)) (AA.nil K))) (AE.int K 0))).tt (tSeq (tAsg (AE.op (aMod K) (AE.op (aIx K) (AE.var K 0) (AE.int K 1)) (AE.cb (aLen K) (AA.cons (AE.op (aIx K) (AE.var K 0) (AE.int K 0)) (AA.nil K)))).te (gName 3)) (tAsg (AE.op (aIx K) (AE.op (aIx K) (AE.var K 0) (AE.int K 0)) (AE.var K 3)).te (gName 2))) tNext) (tSeq (tIfS (AT.test (AE.op (aGe K) (AE.var K 2) (AE.op (aPow K) (AE.int K 10) (AE.int K 18)))).tt (tSeq (tAsg (AE.op (aDv K) (AE.var K 2) (AE.var K 1)).te (gSub (tOp (rIx K) (tVar 0) (tC (.int 0))) (tVar 3) rSetL)) (tRet (AE.op (aMod K) (AE.var K 2) (AE.var K 1)).te)) tNext) (tRet (AE.op (aMod K) (AE.op (aDv K) (AE.op (aMod K) (AE.op (aPow K) (AE.op (aAdd K) (AE.op (aAdd K) (AE.op (aMod K) (AE.var K 2) (AE.int K 2147483587)) (AE.op (aMul K) (AE.int K 7919) (AE.op (aIx K) (AE.var K 0) (AE.int K 1)))) (AE.int K 1)) (AE.int K 5)) (AE.int K 2147483647)) (AE.int K 7)) (AE.var K 1)).te))) { nx := fun _ H' => Q .non H', rt := Q } [some (.ref D), some (.int n), some (.int 0), some (.int (-1))] H3 := by
      intro H3 s3
      have hD3 := s3 _ _ hD2
      have hC3 := s3 _ _ hC2
      refine do_if ?_
      refine (AT.test (AE.op (aGt K) (AE.cb (aLen K) (AA.cons (AE.op (aIx K) (AE.var K 0) (AE.int K 0)) (AA.nil K))) (AE.int K 0))).ok (k := fun b _ => b = decide (0 < (cs.length : Int))) (repc 0 (-1) hD3 hC3) ⟨.list (cs.map PyData.int), rfl, by show decide ((0 : Int) < ((cs.map PyData.int).length : Nat)) = _; rw [List.length_map]⟩ _ fun b H4 t4 x4 _ hb => ?_
      subst hb
      have s4 := same_of x4
      by_cases z : (0 : Int) < cs.length
      · rw [decide_eq_true z, if_pos rfl]
        refine do_set ?_
        refine (AE.op (aMod K) (AE.op (aIx K) (AE.var K 0) (AE.int K 1)) (AE.cb (aLen K) (AA.cons (AE.op (aIx K) (AE.var K 0) (AE.int K 0)) (AA.nil K)))).ok (k := fun d _ => d = .int ((t + 1) % ((cs.length : Nat) : Int))) (repc 0 (-1) (s4 _ _ hD3) (s4 _ _ hC3)) ⟨.int (t + 1), rfl, .list (cs.map PyData.int), rfl, by show (0 : Int) < ((cs.map PyData.int).length : Nat); rw [List.length_map]; exact z, by show PyData.int ((t + 1) % ((cs.map PyData.int).length : Nat)) = _; rw [List.length_map]⟩ _ fun v d H5 t5 x5 _ hd rv5 => ?_
        subst hd
        obtain rfl := rp_int.mp rv5
        have s5 := same_of x5
        have a0 : 0 ≤ (t + 1) % (cs.length : Int) := Int.emod_nonneg _ (by omega)
        have a1 : (t + 1) % (cs.length : Int) < cs.length := Int.emod_lt_of_pos _ z
        obtain ⟨i, hi⟩ : ∃ i : Nat, (t + 1) % (cs.length : Int) = (i : Int) := ⟨((t + 1) % (cs.length : Int)).toNat, by omega⟩
        rw [hi] at a0 a1 rv5 ⊢
        have il : i < cs.length := by omega
        have s45 : Same H2 H5 := s3.trans (s4.trans s5)
        show (AE.op (aIx K) (AE.op (aIx K) (AE.var K 0) (AE.int K 0)) (AE.var K 3)).te [some (.ref D), some (.int n), some (.int 0), some (.int (i : Int))] H5 _
        refine (AE.op (aIx K) (AE.op (aIx K) (AE.var K 0) (AE.int K 0)) (AE.var K 3)).ok (k := fun d _ => d = .int cs[i]) (repc 0 i (s45 _ _ hD2) (s45 _ _ hC2)) ⟨.list (cs.map PyData.int), rfl, .int cs[i], by rw [atI_nn, List.getElem?_map, List.getElem?_eq_getElem il]; rfl, rfl⟩ _ fun v d H6 t6 x6 _ hd rv6 => ?_
        subst hd
        obtain rfl := rp_int.mp rv6
        exact rest cs[i] i H6 (s45.trans (same_of x6)) (hcs _ (List.getElem_mem il)) fun _ => ⟨i, rfl, List.getElem?_eq_getElem il⟩
      · rw [decide_eq_false z, if_neg (by decide)]
        exact rest 0 (-1) H4 (s3.trans s4) (Int.le_refl _) fun h => absurd h (by decide)
    refine do_set (te := (AE.tup (AA.cons (AE.int K 0) (AA.cons (AE.un (aNeg K) (AE.int K 1)) (AA.nil K)))).te) ?_
    refine (AE.tup (AA.cons (AE.int K 0) (AA.cons (AE.un (aNeg K) (AE.int K 1)) (AA.nil K)))).ok (k := fun d _ => d = .tuple [.int 0, .int (-1)]) (rep0 hD2 hC2) ⟨by decide, rfl⟩ _ fun v d H3 t3 x3 _ hd rv3 => ?_
    subst hd
    obtain ⟨p, vs, rfl, _, hS, rvs⟩ := rp_tup.mp rv3
    obtain rfl : vs = [.int 0, .int (-1)] := RpA.ints_inv (ns := [0, -1]) rvs
    exact ⟨p, _, rfl, hS, rfl, .int 0, _, rfl, .int (-1), _, rfl, rfl, iff3 H3 (same_of x3)⟩
end
noncomputable def pD (n : Int) (pre : List PyData → Prop) (post : List PyData → PyData → Prop) : Pm := ⟨fun ds t k => pre ds ∧ t.n + n ≤ 10000000 ∧ ∀ (d : PyData) (t' : Tq), post ds d → t'.n ≤ t.n + n → t'.o = t.o → k d t', fun {ds t k k'} h w => ⟨w.1, w.2.1, fun d t' p l o => h _ _ (w.2.2 d t' p l o)⟩⟩
noncomputable def pP (post : List PyData → PyData → Prop) : Pm := ⟨fun ds t k => ∃ d, post ds d ∧ k d t, fun {ds t k k'} h w => by
  obtain ⟨d, p, q⟩ := w
  exact ⟨d, p, h _ _ q⟩⟩
theorem w_draw {ds : List PyData} {t : Tq} {k : PK} : p_draw.w ds t k = drawW ds t k := rfl
theorem w_pD {n : Int} {pre : List PyData → Prop} {post : List PyData → PyData → Prop} {ds : List PyData} {t : Tq} {k : PK} : (pD n pre post).w ds t k = (pre ds ∧ t.n + n ≤ 10000000 ∧ ∀ (d : PyData) (t' : Tq), post ds d → t'.n ≤ t.n + n → t'.o = t.o → k d t') := rfl
theorem w_pP {post : List PyData → PyData → Prop} {ds : List PyData} {t : Tq} {k : PK} : (pP post).w ds t k = ∃ d, post ds d ∧ k d t := rfl
noncomputable def p_board : Pm := pD 60 (fun ds => ∃ a b : Int, ds = [.int a, .int b] ∧ 1 ≤ a ∧ a ≤ 4 ∧ 0 ≤ b ∧ b ≤ 8) (fun ds d => ∀ a b : Int, ds = [.int a, .int b] → IsBoard a b d)
noncomputable def p_counter : Pm := pD 4 (fun ds => ∃ n : Int, ds = [.int n] ∧ 2 ≤ n ∧ n ≤ 4) (fun ds d => ∀ n : Int, ds = [.int n] → ∃ c : Ctr, d = c.d ∧ c.Ok n)
section
variable {P : Program} {w : World} {K : PySem.W.Frag} {mg : Str → Option Value} {base : Heap}
noncomputable def b_counter_2 (K : PySem.W.Frag) : AS K := (AS.ret (AE.tup (AA.cons (AE.var K 2) (AA.cons (AE.op (aMod K) (AE.op (aAdd K) (AE.var K 2) (AE.var K 3)) (AE.var K 1)) (AA.cons (AE.var K 4) (AA.cons (AE.op (aAdd K) (AE.int K 1) (AE.callD MB p_draw E0 0 (AA.cons (AE.int K 5) (AA.nil K)))) (AA.nil K)))))))
noncomputable def b_counter_1 (K : PySem.W.Frag) : AS K := (AS.seq (AS.set 4 (AE.op (aAdd K) (AE.int K 1) (AE.callD MB p_draw E0 0 (AA.cons (AE.int K 5) (AA.nil K))))) (b_counter_2 K))
noncomputable def b_counter (K : PySem.W.Frag) : AS K := (AS.seq (AS.par 2 3 (AA.cons (AE.callD MB p_draw E0 0 (AA.cons (AE.var K 1) (AA.nil K))) (AA.cons (AE.op (aAdd K) (AE.int K 1) (AE.callD MB p_draw E0 0 (AA.cons (AE.op (aSub K) (AE.var K 1) (AE.int K 1)) (AA.nil K)))) (AA.nil K)))) (b_counter_1 K))
theorem ok_counter {f f1 : Addr} {fd fd1 : FuncData} (h : Has K mg "_law_counter" sCounter ["_law_deck_here", "_law_kinds"] f fd) (T : Bz mg) (T_draw : Has K mg "_law_draw" sDraw ["_law_deck_here", "_law_limit"] f1 fd1) (G_draw : FnG P w K mg base CX0 1 f1 fd1 ["_law_deck_here", "_law_limit"] (spD K MB p_draw)) : FnG P w K mg base CX0 2 f fd ["_law_deck_here", "_law_kinds"] (spD K MB p_counter) := by
  refine okD h scCounter (b_counter K) p_counter (fun cd A out s H E hgd hr => ⟨_, (pss_cons (ps_par (i := 2) (j := 3) rfl scCounter.nd rfl rfl (by decide) rfl rfl (pa_cons (pe_callG G_draw hgd (hr.mono (by decide)) rfl T_draw.m T_draw.F.kp T_draw.b .nil pass0 (pa_cons (pv 0) (pa_cons (pv 1) pa_nil))) (pa_cons (pe_op (r := rAddU K) op_addU pe_int (pe_callG G_draw hgd (hr.mono (by decide)) rfl T_draw.m T_draw.F.kp T_draw.b .nil pass0 (pa_cons (pv 0) (pa_cons (pe_op op_sub (pv 1) pe_int) pa_nil)))) pa_nil)) rfl)
      (pss_cons (ps_set (i := 4) scCounter.nd rfl (Or.inl rfl) (pe_op (r := rAddU K) op_addU pe_int (pe_callG G_draw hgd (hr.mono (by decide)) rfl T_draw.m T_draw.F.kp T_draw.b .nil pass0 (pa_cons (pv 0) (pa_cons pe_int pa_nil)))))
      (pss_one (ps_ret (pe_tup (pa_cons (pv 2) (pa_cons (pe_op op_mod (pe_op (r := rAddU K) op_addU (pv 2) (pv 3)) (pv 1)) (pa_cons (pv 4) (pa_cons (pe_op (r := rAddU K) op_addU pe_int (pe_callG G_draw hgd (hr.mono (by decide)) rfl T_draw.m T_draw.F.kp T_draw.b .nil pass0 (pa_cons (pv 0) (pa_cons pe_int pa_nil)))) pa_nil))))))))), by (simp_all [b_counter_2, b_counter_1, b_counter]) <;> rfl⟩) (fun ds t k hw => ?_)
  obtain ⟨⟨n, rfl, n0, n1⟩, tl, hk⟩ := hw
  refine ⟨rfl, ?_⟩
  show (b_counter K).wp [.deck MB, .dat (.int n), .un, .un, .un] t _
  simp_all only [b_counter, w_draw, drawW]
  refine ⟨⟨by (first | omega | (simp only [Tq.up] at *; omega)), by (first | omega | (simp only [Tq.up] at *; omega))⟩, by (first | omega | (simp only [Tq.up] at *; omega)), fun s s0 s1 => ⟨⟨by (first | omega | (simp only [Tq.up] at *; omega)), by (first | omega | (simp only [Tq.up] at *; omega))⟩, by (first | omega | (simp only [Tq.up] at *; omega)), fun v v0 v1 => ?_⟩⟩
  simp_all only [b_counter_1, w_draw, drawW]
  refine ⟨by (first | omega | (simp only [Tq.up] at *; omega)), fun g g0 g1 => ?_⟩
  have hne := step_ne (s := s) (p := 1 + v) (n := n) s0 s1 (by (first | omega | (simp only [Tq.up] at *; omega))) (by (first | omega | (simp only [Tq.up] at *; omega))) n1
  have d0 : 0 ≤ (s + (1 + v)) % n := Int.emod_nonneg _ (by (first | omega | (simp only [Tq.up] at *; omega)))
  have d1 : (s + (1 + v)) % n < n := Int.emod_lt_of_pos _ (by (first | omega | (simp only [Tq.up] at *; omega)))
  simp_all only [b_counter_2, w_draw, drawW]
  generalize (s + (1 + v)) % n = dst at hne d0 d1 ⊢
  refine ⟨by (first | omega | (simp only [Tq.up] at *; omega)), by (first | omega | (simp only [Tq.up] at *; omega)), fun e e0 e1 => ?_⟩
  refine hk _ _ (fun n' en => ?_) (by (first | omega | (simp only [Tq.up] at *; omega))) rfl
  simp only [List.cons.injEq, PyData.int.injEq, and_true] at en
  subst en
  exact ⟨⟨s, dst, 1 + g, 1 + e⟩, rfl, s0, s1, d0, d1, hne, by show 1 ≤ 1 + g; (first | omega | (simp only [Tq.up] at *; omega)), by show 1 + g ≤ 5; (first | omega | (simp only [Tq.up] at *; omega)), by show 1 ≤ 1 + e; (first | omega | (simp only [Tq.up] at *; omega)), by show 1 + e ≤ 5; (first | omega | (simp only [Tq.up] at *; omega))⟩
noncomputable def b_board_1b1 (K : PySem.W.Frag) : AS K := (AS.ifS (AT.test (AE.op (aEq K) (AE.callD MB p_draw E0 0 (AA.cons (AE.int K 6) (AA.nil K))) (AE.int K 0))) (AS.append 4 (AA.cons (AE.ownIx 4 (AE.callD MB p_draw E0 0 (AA.cons (AE.view (AE.cb (aLen K) (AA.cons (AE.var K 4) (AA.nil K)))) (AA.nil K)))) (AA.nil K))) (AS.nop K))
noncomputable def b_board_1b0 (K : PySem.W.Frag) : AS K := (AS.seq (AS.append 4 (AA.cons (AE.callD MB p_counter E0 0 (AA.cons (AE.var K 3) (AA.nil K))) (AA.nil K))) (b_board_1b1 K))
noncomputable def b_board_2 (K : PySem.W.Frag) : AS K := (AS.ret (AE.tup (AA.cons (AE.var K 3) (AA.cons (AE.cb (aTup K) (AA.cons (AE.ownSl 4 (AO.none K) (AO.some (AE.var K 2))) (AA.nil K))) (AA.nil K)))))
noncomputable def b_board_1 (K : PySem.W.Frag) : AS K := (AS.seq (AS.for (AI.rng (AA.cons (AE.op (aMul K) (AE.callD MB p_draw E0 0 (AA.cons (AE.op (aAdd K) (AE.var K 2) (AE.int K 1)) (AA.nil K))) (AE.cb (aInt K) (AA.cons (AE.op (aGt K) (AE.var K 3) (AE.int K 1)) (AA.nil K)))) (AA.nil K))) (AG.name K 5) (b_board_1b0 K)) (b_board_2 K))
noncomputable def b_board (K : PySem.W.Frag) : AS K := (AS.seq (AS.parB 3 4 (by decide) (AE.op (aIx K) (AE.lst (AA.cons (AE.op (aAdd K) (AE.int K 1) (AE.callD MB p_draw E0 0 (AA.cons (AE.var K 1) (AA.nil K)))) (AA.cons (AE.var K 1) (AA.nil K)))) (AE.callD MB p_draw E0 0 (AA.cons (AE.int K 2) (AA.nil K)))) (AF.lst (AA.nil K))) (b_board_1 K))
theorem ok_board {f f1 f2 : Addr} {fd fd1 fd2 : FuncData} (h : Has K mg "_law_board" sBoard ["_law_deck_here", "_law_most", "_law_many"] f fd) (T : Bz mg) (T_draw : Has K mg "_law_draw" sDraw ["_law_deck_here", "_law_limit"] f1 fd1) (G_draw : FnG P w K mg base CX0 1 f1 fd1 ["_law_deck_here", "_law_limit"] (spD K MB p_draw)) (T_counter : Has K mg "_law_counter" sCounter ["_law_deck_here", "_law_kinds"] f2 fd2) (G_counter : FnG P w K mg base CX0 2 f2 fd2 ["_law_deck_here", "_law_kinds"] (spD K MB p_counter)) : FnG P w K mg base CX0 3 f fd ["_law_deck_here", "_law_most", "_law_many"] (spD K MB p_board) := by
  refine okD h scBoard (b_board K) p_board (fun cd A out s H E hgd hr => ⟨_, (pss_cons (ps_par (i := 3) (j := 4) rfl scBoard.nd rfl rfl (by decide) rfl rfl (pa_cons (pe_ix (r := rIx K) ix_seq (pe_lst (pa_cons (pe_op (r := rAddU K) op_addU pe_int (pe_callG G_draw hgd (hr.mono (by decide)) rfl T_draw.m T_draw.F.kp T_draw.b .nil pass0 (pa_cons (pv 0) (pa_cons (pv 1) pa_nil)))) (pa_cons (pv 1) pa_nil))) (pe_callG G_draw hgd (hr.mono (by decide)) rfl T_draw.m T_draw.F.kp T_draw.b .nil pass0 (pa_cons (pv 0) (pa_cons pe_int pa_nil))) (fun _ _ => rfl)) (pa_cons (pe_lst pa_nil) pa_nil)) rfl)
      (pss_cons (ps_for PassesOwn.never rfl (pi_range1 rfl T.z_range (pa_cons (pe_op (r := rMulU K) op_mulU (pe_callG G_draw hgd (hr.mono (by decide)) rfl T_draw.m T_draw.F.kp T_draw.b .nil pass0 (pa_cons (pv 0) (pa_cons (pe_op (r := rAddU K) op_addU (pv 2) pe_int) pa_nil))) (pe_callTy call_intU rfl T.z_int boot_intU (pa_cons (pe_cmpR op_gt (pv 3) pe_int (nomark _)) pa_nil))) pa_nil)) (pg_name (i := 5) scBoard.nd rfl (Or.inl rfl))
        (pss_cons (ps_expr (pe_bm PySem.F.plainAttrs_list PySem.F.slot_list_append PySem.F.type_list_append mt_append (pv 4) (pa_cons (pe_callG G_counter hgd (hr.mono (by decide)) rfl T_counter.m T_counter.F.kp T_counter.b .nil pass0 (pa_cons (pv 0) (pa_cons (pv 3) pa_nil))) pa_nil)))
        (pss_one (ps_if (pt_cmpR (r := rEqU K) (op_eqU hr.units) (pe_callG G_draw hgd (hr.mono (by decide)) rfl T_draw.m T_draw.F.kp T_draw.b .nil pass0 (pa_cons (pv 0) (pa_cons pe_int pa_nil))) pe_int (nomark _))
          (pss_one (ps_expr (pe_bm PySem.F.plainAttrs_list PySem.F.slot_list_append PySem.F.type_list_append mt_append (pv 4) (pa_cons (pe_ix (r := rIx K) ix_seq (pv 4) (pe_callG G_draw hgd (hr.mono (by decide)) rfl T_draw.m T_draw.F.kp T_draw.b .nil pass0 (pa_cons (pv 0) (pa_cons (pe_callB (r := rLenU K) call_lenU rfl T.z_len PySem.boot_len (pa_cons (pv 4) pa_nil)) pa_nil))) (fun _ _ => rfl)) pa_nil))))
          pss_nil))))
      (pss_one (ps_ret (pe_tup (pa_cons (pv 3) (pa_cons (pe_callTy (r := rTupU K) call_tupU rfl T.z_tuple boot_tupleU (pa_cons (pe_slice (r := rSlU K) sl_U (pv 4) po_none (po_some (pv 2))) pa_nil)) pa_nil))))))), by (simp_all [b_board_1b1, b_board_1b0, b_board_2, b_board_1, b_board]) <;> rfl⟩) (fun ds t k hw => ?_)
  obtain ⟨⟨a, b, rfl, a0, a1, b0, b1⟩, tl, hk⟩ := hw
  refine ⟨rfl, ?_⟩
  show (b_board K).wp [.deck MB, .dat (.int a), .dat (.int b), .un, .un, .un] t _
  simp_all only [b_board, w_draw, drawW]
  refine ⟨⟨by (first | omega | (simp only [Tq.up] at *; omega)), by (first | omega | (simp only [Tq.up] at *; omega))⟩, by (first | omega | (simp only [Tq.up] at *; omega)), fun r r0 r1 => ⟨by (first | omega | (simp only [Tq.up] at *; omega)), fun q q0 q1 => ?_⟩⟩
  obtain ⟨n, en, n0, n1⟩ : ∃ n : Int, atI [PyData.int (1 + r), .int a] q = some (.int n) ∧ 1 ≤ n ∧ n ≤ a := by
    have c : q = 0 ∨ q = 1 := by (first | omega | (simp only [Tq.up] at *; omega))
    rcases c with rfl | rfl <;> exact ⟨_, rfl, by (first | omega | (simp only [Tq.up] at *; omega)), by (first | omega | (simp only [Tq.up] at *; omega))⟩
  refine atW_of en ?_
  simp_all only [b_board_1, w_draw, drawW]
  refine ⟨⟨by (first | omega | (simp only [Tq.up] at *; omega)), by (first | omega | (simp only [Tq.up] at *; omega))⟩, by (first | omega | (simp only [Tq.up] at *; omega)), fun p p0 p1 => ?_⟩
  obtain ⟨N, hN, hNb, hN1⟩ : ∃ N : Nat, (p * if decide (1 < n) = true then 1 else 0) = (N : Int) ∧ N ≤ 8 ∧ (1 < n ∨ N = 0) := by
    by_cases h : 1 < n
    · exact ⟨p.toNat, by rw [decide_eq_true h, if_pos rfl]; (first | omega | (simp only [Tq.up] at *; omega)), by (first | omega | (simp only [Tq.up] at *; omega)), .inl h⟩
    · exact ⟨0, by rw [decide_eq_false h]; simp, by (first | omega | (simp only [Tq.up] at *; omega)), .inr rfl⟩
  rw [hN]
  refine ⟨.inr ⟨by split <;> decide, by split <;> decide⟩, ⟨by (first | omega | (simp only [Tq.up] at *; omega)), by (first | omega | (simp only [Tq.up] at *; omega))⟩, fun i e' t' => ∃ (ds : List Ctr) (y5 : Sl), e' = [.deck MB, .dat (.int a), .dat (.int b), .dat (.int n), .own (ds.map Ctr.d), y5] ∧ t'.n ≤ t.n + 3 + 6 * i ∧ t'.o = t.o ∧ ds.length ≤ 2 * i ∧ ∀ c ∈ ds, c.Ok n, ⟨[], _, rfl, by (first | omega | (simp only [Tq.up] at *; omega)), rfl, by simp, fun c hc => by simp at hc⟩, ?_, ?_⟩
  · rintro i d e' t' hd ⟨ds, y5, rfl, lt, lo, ld, hds⟩
    obtain ⟨hi, rfl⟩ := rng0_get hd
    simp_all only [b_board_1b0, p_counter, w_pD]
    refine ⟨by rw [List.length_map]; (first | omega | (simp only [Tq.up] at *; omega)), ⟨n, rfl, by (first | omega | (simp only [Tq.up] at *; omega)), by (first | omega | (simp only [Tq.up] at *; omega))⟩, by (first | omega | (simp only [Tq.up] at *; omega)), fun d t2 pd l2 o2 => ?_⟩
    obtain ⟨c, rfl, hc⟩ := pd n rfl
    have em : ds.map Ctr.d ++ [c.d] = (ds ++ [c]).map Ctr.d := by rw [List.map_append]; rfl
    rw [em]
    have hds' : ∀ x ∈ ds ++ [c], x.Ok n := fun x hx => by
      rcases List.mem_append.mp hx with hx | hx
      · exact hds x hx
      · rw [List.mem_singleton.mp hx]
        exact hc
    have l1 : (ds ++ [c]).length ≤ 2 * i + 1 := by rw [List.length_append]; simp only [List.length_cons, List.length_nil]; (first | omega | (simp only [Tq.up] at *; omega))
    have l0 : 0 < (ds ++ [c]).length := by rw [List.length_append]; simp only [List.length_cons, List.length_nil]; (first | omega | (simp only [Tq.up] at *; omega))
    revert hds' l1 l0
    generalize ds ++ [c] = fs
    intro hds' l1 l0
    simp_all only [b_board_1b1, w_draw, drawW]
    refine ⟨by (first | omega | (simp only [Tq.up] at *; omega)), fun g g0 g1 => ?_⟩
    by_cases z : g = 0
    · rw [decide_eq_true z, if_pos rfl]
      refine ⟨by rw [List.length_map]; (first | omega | (simp only [Tq.up] at *; omega)), ⟨by rw [List.length_map]; (first | omega | (simp only [Tq.up] at *; omega)), by rw [List.length_map]; (first | omega | (simp only [Tq.up] at *; omega))⟩, by (first | omega | (simp only [Tq.up] at *; omega)), fun v v0 v1 => ?_⟩
      rw [List.length_map] at v1
      obtain ⟨x, hx⟩ : ∃ x, fs[v.toNat]? = some x := ⟨_, List.getElem?_eq_getElem (by (first | omega | (simp only [Tq.up] at *; omega)))⟩
      refine atW_of (show atI (fs.map Ctr.d) v = some x.d by rw [show v = ((v.toNat : Nat) : Int) by (first | omega | (simp only [Tq.up] at *; omega)), atI_nn, List.getElem?_map, hx]; rfl) ⟨fs ++ [x], _, by rw [List.map_append]; rfl, by (first | omega | (simp only [Tq.up] at *; omega)), by rw [← lo, ← o2]; rfl, by rw [List.length_append]; simp only [List.length_cons, List.length_nil]; (first | omega | (simp only [Tq.up] at *; omega)), fun y hy => ?_⟩
      rcases List.mem_append.mp hy with hy | hy
      · exact hds' y hy
      · rw [List.mem_singleton.mp hy]
        exact hds' x (List.mem_of_getElem? hx)
    · rw [decide_eq_false z, if_neg (by decide)]
      exact ⟨fs, _, rfl, by (first | omega | (simp only [Tq.up] at *; omega)), by rw [← lo, ← o2]; rfl, by (first | omega | (simp only [Tq.up] at *; omega)), hds'⟩
  · rintro e' t' ⟨ds, y5, rfl, lt, lo, ld, hds⟩
    rw [rngD_length] at lt ld
    simp_all only [b_board_2]
    obtain ⟨B, rfl⟩ : ∃ B : Nat, b = (B : Int) := ⟨b.toNat, by (first | omega | (simp only [Tq.up] at *; omega))⟩
    rw [cutD_take, ← List.map_take]
    refine hk _ _ (fun a' b' e => ?_) (by (first | omega | (simp only [Tq.up] at *; omega))) lo
    simp only [List.cons.injEq, PyData.int.injEq, and_true] at e
    obtain ⟨rfl, rfl⟩ := e
    exact ⟨n, ds.take B, rfl, n0, n1, by rw [List.length_take]; (first | omega | (simp only [Tq.up] at *; omega)), fun c hc => hds c (List.mem_of_mem_take hc)⟩
end
noncomputable def p_rnc : Pm := pP fun ds d => ∃ (cs : List Ctr) (νs : List Int), ds = [rowsD cs, .tuple (νs.map PyData.int)] ∧ cs.length ≤ 1000 ∧ (∀ c ∈ cs, c.Ok (νs.length : Int)) ∧ d = rowsD (cs.map (rnC νs))
noncomputable def p_ren : Pm := pP fun ds d => ∃ (n : Int) (cs : List Ctr) (νs : List Int), ds = [boardD n cs, .tuple (νs.map PyData.int)] ∧ cs.length ≤ 1000 ∧ (∀ c ∈ cs, c.Ok (νs.length : Int)) ∧ d = boardD n (cs.map (rnC νs))
/-- the numbers below n in some order -/
noncomputable def PermN (n : Int) (νs : List Int) : Prop := νs.Perm (CG.upN n)
noncomputable def p_names : PmX := ⟨fun ds t k => ∃ m : Nat, ds = [.int (m : Int)] ∧ m ≤ 8 ∧ t.n + 10 ≤ 10000000 ∧ ∀ νs t', PermN (m : Int) νs → t'.n ≤ t.n + 10 → k νs t', fun {ds t k k'} h w => by
  obtain ⟨m, e, l, tl, hk⟩ := w
  exact ⟨m, e, l, tl, fun νs t' p l' => h _ _ (hk νs t' p l')⟩⟩
noncomputable def p_same : Pm := pP fun ds d => ∃ x : PyData, ds = [x, x] ∧ Shx x ∧ d = .bool true
section
variable {P : Program} {w : World} {K : PySem.W.Frag} {mg : Str → Option Value} {base : Heap}
noncomputable def b_renamed_counters (K : PySem.W.Frag) : AS K := (AS.ret (AE.cb (aTup K) (AA.cons (AF.ae (AF.lc (AI.tup (AE.var K 0)) (AG.tup (AGs.cons 2 (AGs.cons 3 (AGs.cons 4 (AGs.cons 5 (AGs.nil K)))))) (AT.yes K) (AE.tup (AA.cons (AE.op (aIx K) (AE.var K 1) (AE.var K 2)) (AA.cons (AE.op (aIx K) (AE.var K 1) (AE.var K 3)) (AA.cons (AE.var K 4) (AA.cons (AE.var K 5) (AA.nil K)))))) [2, 3, 4, 5] (show ∀ j ∈ (AG.tup (AGs.cons 2 (AGs.cons 3 (AGs.cons 4 (AGs.cons 5 (AGs.nil K)))))).sl, j ∈ [2, 3, 4, 5] from fun _ h => h))) (AA.nil K))))
theorem ok_rnc {f : Addr} {fd : FuncData} (h : Has K mg "renamed_counters" sPRenamed_counters ["counters", "names"] f fd) (T : Bz mg) : FnG P w K mg base CX0 1 f fd ["counters", "names"] (spA K p_rnc) := by
  refine okA h scPRenamed_counters (b_renamed_counters K) p_rnc (fun cd A out s H E hgd hr => ⟨_, (pss_one (ps_ret (pe_callTy (r := rTupU K) call_tupU rfl T.z_tuple boot_tupleU (pa_cons (pe_lc (own := [("source", 2), ("to", 3), ("give", 4), ("get", 5)]) rfl scPRenamed_counters.nd (pi_tup (pv 0)) (blkOk_by (N := NscPRenamed_counters) (sc := defScope sPRenamed_counters) (by decide +kernel)) (fun _ _ _ _ _ => (pg_tup rfl (pgs_cons (pg_name (i := 2) scPRenamed_counters.nd rfl (Or.inl rfl) (Or.inr rfl)) (pgs_cons (pg_name (i := 3) scPRenamed_counters.nd rfl (Or.inl rfl) (Or.inr rfl)) (pgs_cons (pg_name (i := 4) scPRenamed_counters.nd rfl (Or.inl rfl) (Or.inr rfl)) (pgs_cons (pg_name (i := 5) scPRenamed_counters.nd rfl (Or.inl rfl) (Or.inr rfl)) pgs_nil)))))) (fun _ _ _ _ _ => pts_nil) (fun _ _ _ _ _ => (pe_tup (pa_cons (pe_ix (r := rIx K) ix_seq (pv 1) (pv 2) (fun _ _ => rfl)) (pa_cons (pe_ix (r := rIx K) ix_seq (pv 1) (pv 3) (fun _ _ => rfl)) (pa_cons (pv 4) (pa_cons (pv 5) pa_nil))))))) pa_nil)))), by (simp_all [b_renamed_counters]) <;> rfl⟩) (fun ds t k hw => ?_)
  obtain ⟨d, ⟨cs, νs, rfl, l8, hok, rfl⟩, hk⟩ := hw
  refine ⟨rfl, ?_⟩
  show (b_renamed_counters K).wp [.dat (rowsD cs), .dat (.tuple (νs.map PyData.int)), .un, .un, .un, .un] t _
  simp_all only [b_renamed_counters]
  refine ⟨by rw [List.length_map]; omega, fun i acc s => s = t ∧ acc = ((cs.take i).map (rnC νs)).map Ctr.d, ⟨rfl, rfl⟩, ?_, ?_⟩
  · rintro i d acc s hd ⟨rfl, rfl⟩
    rw [List.getElem?_map] at hd
    cases hq : cs[i]? with
    | none => rw [hq] at hd; cases hd
    | some c =>
      rw [hq] at hd
      cases hd
      have ko := hok c (List.mem_of_getElem? hq)
      simp_all only []
      refine atW_of (nf_at ko.s0 ko.s1).1 (atW_of (nf_at ko.t0 ko.t1).1 ?_)
      rw [take_next hq, List.map_append, List.map_append]
      rfl
  · rintro acc s ⟨rfl, rfl⟩
    rw [List.length_map, List.take_length]
    exact hk
noncomputable def b_renamed_1 (K : PySem.W.Frag) : AS K := (AS.ret (AE.tup (AA.cons (AE.var K 2) (AA.cons (AE.call p_rnc E0 (AA.cons (AE.var K 3) (AA.cons (AE.var K 1) (AA.nil K)))) (AA.nil K)))))
noncomputable def b_renamed (K : PySem.W.Frag) : AS K := (AS.seq (AS.asg (AE.var K 0) (AG.tup (AGs.cons 2 (AGs.cons 3 (AGs.nil K))))) (b_renamed_1 K))
theorem ok_ren {f f1 : Addr} {fd fd1 : FuncData} (h : Has K mg "renamed" sPRenamed ["board", "names"] f fd) (T : Bz mg) (T_renamed_counters : Has K mg "renamed_counters" sPRenamed_counters ["counters", "names"] f1 fd1) (G_renamed_counters : FnG P w K mg base CX0 1 f1 fd1 ["counters", "names"] (spA K p_rnc)) : FnG P w K mg base CX0 2 f fd ["board", "names"] (spA K p_ren) := by
  refine okA h scPRenamed (b_renamed K) p_ren (fun cd A out s H E hgd hr => ⟨_, (pss_cons (ps_asg (pv 0) (pg_tup rfl (pgs_cons (pg_name (i := 2) scPRenamed.nd rfl (Or.inl rfl)) (pgs_cons (pg_name (i := 3) scPRenamed.nd rfl (Or.inl rfl)) pgs_nil))))
      (pss_one (ps_ret (pe_tup (pa_cons (pv 2) (pa_cons (pe_callG G_renamed_counters hgd (hr.mono (by decide)) rfl T_renamed_counters.m T_renamed_counters.F.kp T_renamed_counters.b .nil pass0 (pa_cons (pv 3) (pa_cons (pv 1) pa_nil))) pa_nil)))))), by (simp_all [b_renamed_1, b_renamed]) <;> rfl⟩) (fun ds t k hw => ?_)
  obtain ⟨d, ⟨n, cs, νs, rfl, l8, hok, rfl⟩, hk⟩ := hw
  refine ⟨rfl, ?_⟩
  show (b_renamed K).wp [.dat (boardD n cs), .dat (.tuple (νs.map PyData.int)), .un, .un] t _
  simp_all only [b_renamed, b_renamed_1, p_rnc, w_pP]
  exact ⟨_, ⟨cs, νs, rfl, l8, hok, rfl⟩, hk⟩
theorem ok_names {f f1 : Addr} {fd fd1 : FuncData} (h : Has K mg "_law_names" sNames ["_law_deck_here", "_law_count"] f fd) (T : Bz mg) (T_draw : Has K mg "_law_draw" sDraw ["_law_deck_here", "_law_limit"] f1 fd1) (G_draw : FnG P w K mg base CX0 1 f1 fd1 ["_law_deck_here", "_law_limit"] (spD K MB p_draw)) : FnG P w K mg base CX0 2 f fd ["_law_deck_here", "_law_count"] (spDX K MB p_names) := by
  refine okDX h scNames (AS.setOwn 2 (AF.lstRg (AE.var K 1))) p_names (tRetPopX (AI.rng (AA.cons (AE.var K 1) (AA.nil K))) (AG.name K 3) 2 (AA.cons (AE.callD MB p_draw E0 0 (AA.cons (AE.view (AE.cb (aLen K) (AA.cons (AE.var K 2) (AA.nil K)))) (AA.nil K))) (AA.nil K)) [3]) (wRetPopX (AI.rng (AA.cons (AE.var K 1) (AA.nil K))) (AG.name K 3) 2 (AA.cons (AE.callD MB p_draw E0 0 (AA.cons (AE.view (AE.cb (aLen K) (AA.cons (AE.var K 2) (AA.nil K)))) (AA.nil K))) (AA.nil K)) [3]) (fun f r h crt => retPopX _ _ _ _ _ (fun _ h => h) (show (2 : Nat) ∉ [3] by decide) f r h crt) (fun cd A out s H E hgd hr => ⟨_, (pss_cons (ps_set (i := 2) scNames.nd rfl (Or.inr rfl) (pe_listRg rfl rfl T.z_list (prg_1 rfl T.z_range (pv 1))))
      (pss_one (ps_ret (pe_callTy (r := rTupX K) call_tupX rfl T.z_tuple boot_tupleU (pa_cons (pe_lc (own := [("_law_k", 3)]) rfl scNames.nd (pi_range1 rfl T.z_range (pa_cons (pv 1) pa_nil)) (blkOk_by (N := NscNames) (sc := defScope sNames) (by decide +kernel)) (fun _ _ _ _ _ => (pg_name (i := 3) scNames.nd rfl (Or.inl rfl))) (fun _ _ _ _ _ => pts_nil) (fun _ _ _ _ _ => (pe_bmK (K := K) (r := rPopAt) PySem.F.plainAttrs_list PySem.F.slot_list_pop PySem.F.type_list_pop mt_popAt (pv 2) (pa_cons (pe_callG G_draw hgd (hr.mono (by decide)) rfl T_draw.m T_draw.F.kp T_draw.b .nil pass0 (pa_cons (pv 0) (pa_cons (pe_callB (r := rLenU K) call_lenU rfl T.z_len PySem.boot_len (pa_cons (pv 2) pa_nil)) pa_nil))) pa_nil)))) pa_nil))))), by (simp only [tRetPopX, t_AS_setOwn, t_AF_lstRg, t_AI_rng, t_AA_cons, t_AA_nil, t_AE_var, t_AG_name, t_AE_callD, t_AE_view, t_AE_cb, t_aLen]) <;> rfl⟩) (fun ds t k hw => ?_)
  obtain ⟨m, rfl, hm, tl, hk⟩ := hw
  refine ⟨rfl, ?_⟩
  show (AS.setOwn 2 (AF.lstRg (AE.var K 1))).wp [.deck MB, .dat (.int (m : Int)), .un, .un] t _
  simp_all only []
  refine ⟨⟨by (first | omega | (simp only [Tq.up]; omega)), by (first | omega | (simp only [Tq.up]; omega)), by (first | omega | (simp only [Tq.up]; omega)), by (first | omega | (simp only [Tq.up]; omega)), by (first | omega | (simp only [Tq.up]; omega))⟩, ?_⟩
  simp_all only [wRetPopX, w_draw, drawW]
  refine ⟨⟨by (first | omega | (simp only [Tq.up]; omega)), by (first | omega | (simp only [Tq.up]; omega))⟩, by rw [rngD_length]; omega, fun i l acc s => ∃ ls νs : List Int, l = ls.map PyData.int ∧ acc = νs.map PyData.int ∧ νs.length = i ∧ s.n = t.n + (i : Int) ∧ (νs ++ ls).Perm ((List.range m).map fun i : Nat => (i : Int)), ⟨(List.range m).map fun i : Nat => (i : Int), [], by rw [rng_ints, Int.toNat_natCast], rfl, rfl, by (first | omega | (simp only [Tq.up]; omega)), .refl _⟩, ?_, ?_⟩
  · rintro i d l acc s hd ⟨ls, νs, rfl, rfl, li, hs, hp⟩
    obtain ⟨hi, rfl⟩ := rng0_get hd
    have lp := hp.length_eq
    rw [List.length_append, List.length_map, List.length_range] at lp
    have im : i < m := by (first | omega | (simp only [Tq.up]; omega))
    try simp_all only []
    rw [List.length_map]
    refine ⟨⟨by (first | omega | (simp only [Tq.up]; omega)), by (first | omega | (simp only [Tq.up]; omega))⟩, by (first | omega | (simp only [Tq.up]; omega)), fun r r0 r1 => ?_⟩
    obtain ⟨j, rfl⟩ : ∃ j : Nat, r = j := ⟨r.toNat, by (first | omega | (simp only [Tq.up]; omega))⟩
    have jl : j < ls.length := by (first | omega | (simp only [Tq.up]; omega))
    have hj : ls[j]? = some ls[j] := List.getElem?_eq_getElem jl
    try simp_all only []
    refine ⟨.int ls[j], ⟨by (first | omega | (simp only [Tq.up]; omega)), by (first | omega | (simp only [Tq.up]; omega)), by (first | omega | (simp only [Tq.up]; omega))⟩, by rw [Int.toNat_natCast, List.getElem?_map, hj]; rfl, ls.eraseIdx j, νs ++ [ls[j]], by rw [Int.toNat_natCast, era_map], by rw [List.map_append]; rfl, by rw [List.length_append, li]; rfl, by (first | omega | (simp only [Tq.up]; omega)), (perm_pop hj).trans hp⟩
  · rintro l acc s ⟨ls, νs, rfl, rfl, li, hs, hp⟩
    rw [rngD_length, show ((m : Int) - 0).toNat = m by (first | omega | (simp only [Tq.up]; omega))] at li
    have lp := hp.length_eq
    rw [List.length_append, List.length_map, List.length_range] at lp
    obtain rfl : ls = [] := List.length_eq_zero_iff.mp (by (first | omega | (simp only [Tq.up]; omega)))
    rw [List.append_nil] at hp
    refine ⟨νs, rfl, hk _ _ (by unfold PermN CG.upN; rw [Int.toNat_natCast]; exact hp) ?_⟩
    rw [rngD_length] at hs
    omega
noncomputable def b_same (K : PySem.W.Frag) : AS K := (AS.ret (AE.op (aEq K) (AE.cb (aRepr K) (AA.cons (AE.var K 0) (AA.nil K))) (AE.cb (aRepr K) (AA.cons (AE.var K 1) (AA.nil K)))))
theorem ok_same {f : Addr} {fd : FuncData} (h : Has K mg "_law_same" sSame ["_law_value", "_law_due"] f fd) (T : Bz mg) : FnG P w K mg base CX0 1 f fd ["_law_value", "_law_due"] (spA K p_same) := by
  refine okA h scSame (b_same K) p_same (fun cd A out s H E hgd hr => ⟨_, (pss_one (ps_ret (pe_cmpR (r := rEqU K) (op_eqU hr.units) (pe_callB (r := rRepr K) (call_reprD hgd hr.units) rfl T.z_repr boot_repr (pa_cons (pv 0) pa_nil)) (pe_callB (r := rRepr K) (call_reprD hgd hr.units) rfl T.z_repr boot_repr (pa_cons (pv 1) pa_nil)) (nomark _)))), by (simp_all [b_same]) <;> rfl⟩) (fun ds t k hw => ?_)
  obtain ⟨d, ⟨x, rfl, hx, rfl⟩, hk⟩ := hw
  refine ⟨rfl, ?_⟩
  show (b_same K).wp [.dat x, .dat x] t _
  simp_all only [b_same]
  exact ⟨hx, hx, hk⟩
end
theorem pn_mem {n k : Int} {νs : List Int} (h : PermN n νs) (k0 : 0 ≤ k) (k1 : k < n) : k ∈ νs :=
  h.mem_iff.mpr (List.mem_map.mpr ⟨k.toNat, List.mem_range.mpr (by omega), by omega⟩)
theorem pn_up {n : Int} : PermN n (CG.upN n) := .refl _
theorem pn_rev {n : Int} {νs : List Int} (h : PermN n νs) : PermN n νs.reverse := (List.reverse_perm νs).trans h
theorem nd_inj {νs : List Int} (nd : νs.Nodup) {i j : Nat} (hi : i < νs.length) (hj : j < νs.length) (e : νs[i] = νs[j]) : i = j := by
  have pw := List.pairwise_iff_getElem.mp nd
  by_cases a : i < j
  · exact absurd e (pw i j hi hj a)
  · by_cases b : j < i
    · exact absurd e.symm (pw j i hj hi b)
    · omega
theorem idx_nd {νs : List Int} (nd : νs.Nodup) {i : Nat} (hi : i < νs.length) : νs.idxOf νs[i] = i := by
  have hl : νs.idxOf νs[i] < νs.length := List.idxOf_lt_length_of_mem (List.getElem_mem hi)
  exact nd_inj nd hl hi (List.getElem_idxOf hl)
/-- the way back -/
noncomputable def bkN (n : Int) (νs : List Int) : List Int := (CG.upN n).map fun k => (νs.idxOf k : Int)
theorem up_len {n : Int} : (CG.upN n).length = n.toNat := by unfold CG.upN; rw [List.length_map, List.length_range]
theorem up_get {n : Int} {j : Nat} (h : j < n.toNat) : (CG.upN n)[j]? = some (j : Int) := by
  unfold CG.upN
  rw [List.getElem?_map, List.getElem?_range h]
  rfl
theorem nf_get {νs : List Int} {j : Nat} {x : Int} (h : νs[j]? = some x) : nf νs (j : Int) = x := by
  unfold nf
  rw [Int.toNat_natCast, List.getD_eq_getElem?_getD, h]
  rfl
theorem nf_bk {n : Int} {νs : List Int} (h : PermN n νs) {s : Int} (s0 : 0 ≤ s) (s1 : s < n) : nf (bkN n νs) (nf νs s) = s := by
  have N := names_of (by omega) h
  obtain ⟨j, rfl⟩ : ∃ j : Nat, s = j := ⟨s.toNat, by omega⟩
  have jl : j < νs.length := by have := N.ln; omega
  have e1 : nf νs (j : Int) = νs[j] := nf_get (List.getElem?_eq_getElem jl)
  rw [e1]
  have x0 := N.lo _ (List.getElem_mem jl)
  have x1 := N.hi _ (List.getElem_mem jl)
  obtain ⟨m, hm⟩ : ∃ m : Nat, νs[j] = (m : Int) := ⟨νs[j].toNat, by omega⟩
  have e2 : (bkN n νs)[m]? = some ((νs.idxOf (m : Int) : Nat) : Int) := by
    unfold bkN
    rw [List.getElem?_map, up_get (by omega)]
    rfl
  rw [hm, nf_get e2, ← hm, idx_nd N.nd jl]
theorem rn_back {n : Int} {νs : List Int} (h : PermN n νs) {c : Ctr} (ok : c.Ok n) : rnC (bkN n νs) (rnC νs c) = c := by
  show Ctr.mk (nf (bkN n νs) (nf νs c.s)) (nf (bkN n νs) (nf νs c.t)) c.g c.e = c
  rw [nf_bk h ok.s0 ok.s1, nf_bk h ok.t0 ok.t1]
theorem rn_up {n : Int} {c : Ctr} (ok : c.Ok n) : rnC (CG.upN n) c = c := by
  show Ctr.mk (nf (CG.upN n) c.s) (nf (CG.upN n) c.t) c.g c.e = c
  have e : ∀ s : Int, 0 ≤ s → s < n → nf (CG.upN n) s = s := fun s s0 s1 => by
    obtain ⟨j, rfl⟩ : ∃ j : Nat, s = j := ⟨s.toNat, by omega⟩
    exact nf_get (up_get (by omega))
  rw [e _ ok.s0 ok.s1, e _ ok.t0 ok.t1]
theorem prn_ok {n : Int} {νs : List Int} (h : PermN n νs) {c : Ctr} (ok : c.Ok n) : (rnC νs c).Ok n := by
  have N := names_of (by have := ok.s0; have := ok.s1; omega) h
  have l := N.ln
  have s1 := ok.s1
  have t1 := ok.t1
  have a := (nf_at (νs := νs) ok.s0 (by omega)).2
  have b := (nf_at (νs := νs) ok.t0 (by omega)).2
  exact ⟨N.lo _ a, N.hi _ a, N.lo _ b, N.hi _ b, nf_ne N ok.s0 ok.s1 ok.t0 ok.t1 ok.ne, ok.g0, ok.g1, ok.e0, ok.e1⟩
theorem rnC_map {n : Int} {νs : List Int} (h : PermN n νs) : ∀ {cs : List Ctr}, (∀ c ∈ cs, c.Ok n) → (cs.map (rnC νs)).map (rnC (bkN n νs)) = cs
  | [], _ => rfl
  | c :: cs, ok => by
    show rnC _ (rnC νs c) :: (cs.map (rnC νs)).map (rnC (bkN n νs)) = _
    rw [rn_back h (ok c List.mem_cons_self), rnC_map h fun x hx => ok x (List.mem_cons_of_mem _ hx)]
theorem rnU_map {n : Int} : ∀ {cs : List Ctr}, (∀ c ∈ cs, c.Ok n) → cs.map (rnC (CG.upN n)) = cs
  | [], _ => rfl
  | c :: cs, ok => by
    show rnC _ c :: cs.map (rnC (CG.upN n)) = _
    rw [rn_up (ok c List.mem_cons_self), rnU_map fun x hx => ok x (List.mem_cons_of_mem _ hx)]
theorem sm_ns {n : Int} {νs : List Int} (h : PermN n νs) (n0 : 0 ≤ n) (n1 : n ≤ 8) : Sm 1 5000 (.tuple (νs.map PyData.int)) := by
  have N := names_of n0 h
  have l := N.ln
  refine (sm_tup (n := 0) (m := 202) fun d hd => ?_).mono (by decide) (by rw [List.length_map]; omega)
  obtain ⟨x, hx, rfl⟩ := List.mem_map.mp hd
  have := N.lo _ hx
  have := N.hi _ hx
  exact sm_int (by omega)
theorem shx_two {n : Int} {cs : List Ctr} {νs : List Int} (h : PermN n νs) (n0 : 0 ≤ n) (n1 : n ≤ 8) (ok : ∀ c ∈ cs, c.Ok n) (l8 : cs.length ≤ 100) : Shx (.list [boardD n cs, .tuple (νs.map PyData.int)]) := by
  refine .inl (Sm.mono (sm_lst (n := 3) (m := 200020) fun x hx => ?_) (by decide) (by show 2 * 200020 + 2 * 2 + 3 ≤ 1000000; decide))
  simp only [List.mem_cons, List.not_mem_nil, or_false] at hx
  rcases hx with rfl | rfl
  · exact sm_board ok n0 (by omega) l8
  · exact (sm_ns h n0 n1).mono (by decide) (by decide)
theorem shx_bds {n : Int} {cs : List Ctr} (n0 : 0 ≤ n) (n1 : n ≤ 8) (ok : ∀ c ∈ cs, c.Ok n) (l8 : cs.length ≤ 100) : Shx (.list [boardD n cs, boardD n cs]) := by
  refine .inl (Sm.mono (sm_lst (n := 3) (m := 200020) fun x hx => ?_) (by decide) (by show 2 * 200020 + 2 * 2 + 3 ≤ 1000000; decide))
  simp only [List.mem_cons, List.not_mem_nil, or_false, or_self] at hx
  rw [hx]
  exact sm_board ok n0 (by omega) l8
section
variable {P : Program} {w : World} {K : PySem.W.Frag} {mg : Str → Option Value} {base : Heap}
noncomputable def b_law_0b2b6 (K : PySem.W.Frag) : AS K := (AS.ifS (AT.test (AE.op (aNe K) (AE.call p_ren E0 (AA.cons (AE.var K 12) (AA.cons (AE.var K 14) (AA.nil K)))) (AE.var K 3))) (AS.ret (AE.bl K false)) (AS.nop K))
noncomputable def b_law_0b2b5 (K : PySem.W.Frag) : AS K := (AS.seq (AS.set 14 (AE.cb (aTup K) (AA.cons (AF.ae (AF.lc (AI.tup (AE.exa (XE.var K 4))) (AG.name K 16) (AT.yes K) (AE.tix (XE.var K 5) (AE.var K 16)) [16] (show ∀ j ∈ (AG.name K 16).sl, j ∈ [16] from fun _ h => h))) (AA.nil K)))) (b_law_0b2b6 K))
noncomputable def b_law_0b2b4 (K : PySem.W.Frag) : AS K := (AS.seq (AS.ifS (AT.or (AT.not (AT.b (AE.call p_same E0 (AA.cons (AE.var K 13) (AA.cons (AE.lst (AA.cons (AE.var K 12) (AA.cons (AE.var K 12) (AA.nil K)))) (AA.nil K)))))) (AT.test (AE.op (aNe K) (AE.cb (aRepr K) (AA.cons (AE.lst (AA.cons (AE.var K 3) (AA.cons (AE.exa (XE.var K 5)) (AA.nil K)))) (AA.nil K))) (AE.var K 6)))) (AS.ret (AE.bl K false)) (AS.nop K)) (b_law_0b2b5 K))
noncomputable def b_law_0b2b3 (K : PySem.W.Frag) : AS K := (AS.seq (AS.set 13 (AF.ae (AF.lc (AI.rng (AA.cons (AE.int K 2) (AA.nil K))) (AG.name K 15) (AT.yes K) (AE.call p_ren E0 (AA.cons (AE.var K 3) (AA.cons (AE.exa (XE.var K 5)) (AA.nil K)))) [15] (show ∀ j ∈ (AG.name K 15).sl, j ∈ [15] from fun _ h => h)))) (b_law_0b2b4 K))
noncomputable def b_law_0b2b2 (K : PySem.W.Frag) : AS K := (AS.seq (AS.set 12 (AE.tup (AA.cons (AE.op (aIx K) (AE.var K 3) (AE.int K 0)) (AA.cons (AE.var K 7) (AA.nil K))))) (b_law_0b2b3 K))
noncomputable def b_law_0b2b1 (K : PySem.W.Frag) : AS K := (AS.seq (AS.for (AI.tup (AE.op (aIx K) (AE.var K 3) (AE.int K 1))) (AG.tup (AGs.cons 8 (AGs.cons 9 (AGs.cons 10 (AGs.cons 11 (AGs.nil K)))))) (AS.set 7 (AE.op (aAdd K) (AE.var K 7) (AE.tup (AA.cons (AE.tup (AA.cons (AE.op (aIx K) (AE.exa (XE.var K 5)) (AE.var K 8)) (AA.cons (AE.op (aIx K) (AE.exa (XE.var K 5)) (AE.var K 9)) (AA.cons (AE.var K 10) (AA.cons (AE.var K 11) (AA.nil K)))))) (AA.nil K)))))) (b_law_0b2b2 K))
noncomputable def b_law_0b2b0 (K : PySem.W.Frag) : AS K := (AS.seq (AS.par 6 7 (AA.cons (AE.cb (aRepr K) (AA.cons (AE.lst (AA.cons (AE.var K 3) (AA.cons (AE.exa (XE.var K 5)) (AA.nil K)))) (AA.nil K))) (AA.cons (AE.tup (AA.nil K)) (AA.nil K)))) (b_law_0b2b1 K))
noncomputable def b_law_0b3 (K : PySem.W.Frag) : AS K := (AS.ifS (AT.test (AE.op (aNe K) (AE.cb (aRepr K) (AA.cons (AE.call p_ren E0 (AA.cons (AE.var K 3) (AA.cons (AE.exa (XE.var K 4)) (AA.nil K)))) (AA.nil K))) (AE.cb (aRepr K) (AA.cons (AE.var K 3) (AA.nil K))))) (AS.ret (AE.bl K false)) (AS.nop K))
noncomputable def b_law_0b2 (K : PySem.W.Frag) : AS K := (AS.seq (AS.forX 5 (XA.cons (XE.callD MB p_names E0 1 (AA.cons (AE.op (aIx K) (AE.var K 3) (AE.int K 0)) (AA.nil K))) (XA.cons (XE.var K 4) (XA.cons (XE.revT (AE.exa (XE.var K 4))) (XA.nil K)))) (b_law_0b2b0 K)) (b_law_0b3 K))
noncomputable def b_law_0b1 (K : PySem.W.Frag) : AS K := (AS.seq (AS.setX 4 (XE.tupRg (AE.op (aIx K) (AE.var K 3) (AE.int K 0)))) (b_law_0b2 K))
noncomputable def b_law_0b0 (K : PySem.W.Frag) : AS K := (AS.seq (AS.set 3 (AE.callD MB p_board E0 1 (AA.cons (AE.op (aIx K) (AE.lst (AA.cons (AE.int K 4) (AA.cons (AE.int K 2) (AA.cons (AE.int K 3) (AA.nil K))))) (AE.op (aMod K) (AE.var K 2) (AE.int K 3))) (AA.cons (AE.int K 8) (AA.nil K))))) (b_law_0b1 K))
noncomputable def b_law_1 (K : PySem.W.Frag) : AS K := (AS.ret (AE.bl K true))
noncomputable def b_law (K : PySem.W.Frag) : AS K := (AS.seq (AS.for (AI.rng (AA.cons (AE.int K 10) (AA.nil K))) (AG.name K 2) (b_law_0b0 K)) (b_law_1 K))
theorem ok_law {f f_deck f_board f_names f_renamed f_same : Addr} {fd fd_deck fd_board fd_names fd_renamed fd_same : FuncData} (h : Has K mg "law" sLaw ["_law_script"] f fd) (T : Bz mg)
    (T_deck : Has K mg "_law_deck" sDeck ["_law_script"] f_deck fd_deck) (G_deck : FnG P w K mg base CX0 1 f_deck fd_deck ["_law_script"] (spM K MB))
    (T_board : Has K mg "_law_board" sBoard ["_law_deck_here", "_law_most", "_law_many"] f_board fd_board) (G_board : FnG P w K mg base CX0 3 f_board fd_board ["_law_deck_here", "_law_most", "_law_many"] (spD K MB p_board))
    (T_names : Has K mg "_law_names" sNames ["_law_deck_here", "_law_count"] f_names fd_names) (G_names : FnG P w K mg base CX0 2 f_names fd_names ["_law_deck_here", "_law_count"] (spDX K MB p_names))
    (T_renamed : Has K mg "renamed" sPRenamed ["board", "names"] f_renamed fd_renamed) (G_renamed : FnG P w K mg base CX0 2 f_renamed fd_renamed ["board", "names"] (spA K p_ren))
    (T_same : Has K mg "_law_same" sSame ["_law_value", "_law_due"] f_same fd_same) (G_same : FnG P w K mg base CX0 1 f_same fd_same ["_law_value", "_law_due"] (spA K p_same)) : FnG P w K mg base CX0 4 f fd ["_law_script"] (spLaw K) := by
  refine okLaw (M := MB) h scLaw (b_law K) (fun cd Ar out s H E hgd hr => ⟨_, (pss_cons (ps_set (i := 1) scLaw.nd rfl (Or.inl rfl) (pe_callG G_deck hgd (hr.mono (by decide)) rfl T_deck.m T_deck.F.kp T_deck.b .nil pass0 (pa_cons (pv 0) pa_nil)))
      (pss_cons (ps_for PassesOwn.never rfl (pi_range1 rfl T.z_range (pa_cons pe_int pa_nil)) (pg_name (i := 2) scLaw.nd rfl (Or.inl rfl))
        (pss_cons (ps_set (i := 3) scLaw.nd rfl (Or.inr rfl) (pe_callG G_board hgd (hr.mono (by decide)) rfl T_board.m T_board.F.kp T_board.b .nil pass0 (pa_cons (pv 1) (pa_cons (pe_ix (r := rIx K) ix_seq (pe_lst (pa_cons pe_int (pa_cons pe_int (pa_cons pe_int pa_nil)))) (pe_op op_mod (pv 2) pe_int) (fun _ _ => rfl)) (pa_cons pe_int pa_nil)))))
        (pss_cons (ps_set (i := 4) scLaw.nd rfl (Or.inl rfl) (pe_tupRgX rfl rfl T.z_tuple (prg_1 rfl T.z_range (pe_ix (r := rIx K) ix_seq (pv 3) pe_int (fun _ _ => rfl)))))
        (pss_cons (ps_for PassesOwn.never rfl (pi_list (pe_lst (pa_cons (pe_callG G_names hgd (hr.mono (by decide)) rfl T_names.m T_names.F.kp T_names.b .nil pass0 (pa_cons (pv 1) (pa_cons (pe_ix (r := rIx K) ix_seq (pv 3) pe_int (fun _ _ => rfl)) pa_nil))) (pa_cons (pv 4) (pa_cons (pe_revTX (pv 4)) pa_nil))))) (pg_name (i := 5) scLaw.nd rfl (Or.inr rfl))
          (pss_cons (ps_par (i := 6) (j := 7) rfl scLaw.nd rfl rfl (by decide) rfl rfl (pa_cons (pe_callB (r := rRepr K) (call_reprD hgd hr.units) rfl T.z_repr boot_repr (pa_cons (pe_lst (pa_cons (pv 3) (pa_cons (pv 5) pa_nil))) pa_nil)) (pa_cons (pe_tup pa_nil) pa_nil)) rfl)
          (pss_cons (ps_for PassesOwn.never rfl (pi_tup (pe_ix (r := rIx K) ix_seq (pv 3) pe_int (fun _ _ => rfl))) (pg_tup rfl (pgs_cons (pg_name (i := 8) scLaw.nd rfl (Or.inl rfl)) (pgs_cons (pg_name (i := 9) scLaw.nd rfl (Or.inl rfl)) (pgs_cons (pg_name (i := 10) scLaw.nd rfl (Or.inl rfl)) (pgs_cons (pg_name (i := 11) scLaw.nd rfl (Or.inl rfl)) pgs_nil)))))
            (pss_one (ps_set (i := 7) scLaw.nd rfl (Or.inl rfl) (pe_op (r := rAddU K) op_addU (pv 7) (pe_tup (pa_cons (pe_tup (pa_cons (pe_ix (r := rIx K) ix_seq (pv 5) (pv 8) (fun _ _ => rfl)) (pa_cons (pe_ix (r := rIx K) ix_seq (pv 5) (pv 9) (fun _ _ => rfl)) (pa_cons (pv 10) (pa_cons (pv 11) pa_nil))))) pa_nil))))))
          (pss_cons (ps_set (i := 12) scLaw.nd rfl (Or.inl rfl) (pe_tup (pa_cons (pe_ix (r := rIx K) ix_seq (pv 3) pe_int (fun _ _ => rfl)) (pa_cons (pv 7) pa_nil))))
          (pss_cons (ps_setLc (i := 13)  (own := [("_law_again", 15)]) rfl scLaw.nd rfl rfl (sw_true rfl rfl rfl (by decide +kernel)) (pi_range1 rfl T.z_range (pa_cons pe_int pa_nil)) (blkOk_by (N := NscLaw) (sc := defScope sLaw) (by decide +kernel)) (fun _ _ _ _ _ => (pg_name (i := 15) scLaw.nd rfl (Or.inl rfl))) (fun _ _ _ _ _ => pts_nil) (fun _ _ _ _ _ => (pe_callG G_renamed hgd (hr.mono (by decide)) rfl T_renamed.m T_renamed.F.kp T_renamed.b .nil pass0 (pa_cons (pv 3) (pa_cons (pv 5) pa_nil)))))
          (pss_cons (ps_if (PW.pt (pw_or (pt_not (pt_val (pe_callG G_same hgd (hr.mono (by decide)) rfl T_same.m T_same.F.kp T_same.b .nil pass0 (pa_cons (pv 13) (pa_cons (pe_lst (pa_cons (pv 12) (pa_cons (pv 12) pa_nil))) pa_nil))))) (pw_or1 (pt_cmpR (r := rNeU K) (op_neU hr.units) (pe_callB (r := rRepr K) (call_reprD hgd hr.units) rfl T.z_repr boot_repr (pa_cons (pe_lst (pa_cons (pv 3) (pa_cons (pv 5) pa_nil))) pa_nil)) (pv 6) (nomark _)))))
            (pss_one (ps_ret pe_bl))
            pss_nil)
          (pss_cons (ps_set (i := 14) scLaw.nd rfl (Or.inl rfl) (pe_callTy (r := rTupU K) call_tupU rfl T.z_tuple boot_tupleU (pa_cons (pe_lc (own := [("_law_kind", 16)]) rfl scLaw.nd (pi_tup (pv 4)) (blkOk_by (N := NscLaw) (sc := defScope sLaw) (by decide +kernel)) (fun _ _ _ _ _ => (pg_name (i := 16) scLaw.nd rfl (Or.inl rfl))) (fun _ _ _ _ _ => pts_nil) (fun _ _ _ _ _ => (pe_tix (K := K) PySem.F.slot_tuple_index (pv 5) (pa_cons (pv 16) pa_nil)))) pa_nil)))
          (pss_one (ps_if (pt_cmpR (r := rNeU K) (op_neU hr.units) (pe_callG G_renamed hgd (hr.mono (by decide)) rfl T_renamed.m T_renamed.F.kp T_renamed.b .nil pass0 (pa_cons (pv 12) (pa_cons (pv 14) pa_nil))) (pv 3) (nomark _))
            (pss_one (ps_ret pe_bl))
            pss_nil)))))))))
        (pss_one (ps_if (pt_cmpR (r := rNeU K) (op_neU hr.units) (pe_callB (r := rRepr K) (call_reprD hgd hr.units) rfl T.z_repr boot_repr (pa_cons (pe_callG G_renamed hgd (hr.mono (by decide)) rfl T_renamed.m T_renamed.F.kp T_renamed.b .nil pass0 (pa_cons (pv 3) (pa_cons (pv 4) pa_nil))) pa_nil)) (pe_callB (r := rRepr K) (call_reprD hgd hr.units) rfl T.z_repr boot_repr (pa_cons (pv 3) pa_nil)) (nomark _))
          (pss_one (ps_ret pe_bl))
          pss_nil))))))
      (pss_one (ps_ret pe_bl)))), by (simp_all [b_law_0b2b6, b_law_0b2b5, b_law_0b2b4, b_law_0b2b3, b_law_0b2b2, b_law_0b2b1, b_law_0b2b0, b_law_0b3, b_law_0b2, b_law_0b1, b_law_0b0, b_law_1, b_law]) <;> rfl⟩) (by decide) ?_
  show (b_law K).wp [.un, .deck MB, _, _, _, _, _, _, _, _, _, _, _, _, _, _, _] 0 _
  simp_all only [b_law]
  refine ⟨fun i e t' => t'.n ≤ 100 * i ∧ ∃ (y2 y3 y4 y5 y6 y7 y8 y9 y10 y11 y12 y13 y14 y15 y16 : Sl), e = [.un, .deck MB, y2, y3, y4, y5, y6, y7, y8, y9, y10, y11, y12, y13, y14, y15, y16], ⟨by show (0 : Int) ≤ _; omega, _, _, _, _, _, _, _, _, _, _, _, _, _, _, _, rfl⟩, ?_, ?_⟩
  · rintro i d e t1 hd ⟨ht, y2, y3, y4, y5, y6, y7, y8, y9, y10, y11, y12, y13, y14, y15, y16, rfl⟩
    obtain ⟨hi, rfl⟩ := rng0_get hd
    have hi : i < 10 := hi
    simp_all only [b_law_0b0, p_board, w_pD]
    obtain ⟨q, hq, q0, q1⟩ : ∃ q : Int, atI [PyData.int 4, PyData.int 2, PyData.int 3] ((i : Int) % 3) = some (.int q) ∧ 1 ≤ q ∧ q ≤ 4 := by
      have c : (i : Int) % 3 = 0 ∨ (i : Int) % 3 = 1 ∨ (i : Int) % 3 = 2 := by omega
      rcases c with c | c | c <;> rw [c] <;> exact ⟨_, rfl, by decide, by decide⟩
    refine atW_of hq ⟨⟨q, 8, rfl, q0, q1, by decide, by decide⟩, by omega, fun d t2 hd2 l2 o2 => ?_⟩
    obtain ⟨n, cs, rfl, n0, n1, l8, hcs⟩ := hd2 q 8 rfl
    unfold boardD
    simp_all only [b_law_0b1]
    refine ⟨⟨by omega, by omega, by omega, by omega, by omega⟩, fun p o ho => ?_⟩
    simp_all only [b_law_0b2, p_names]
    simp only [q_rdX ho]
    obtain ⟨m, rfl⟩ : ∃ m : Nat, n = (m : Int) := ⟨n.toNat, by omega⟩
    refine ⟨m, rfl, by omega, by omega, fun νs t3 hν l3 => ⟨CG.upN m, rfl, fun j e t' => t' = t3 ∧ ∃ (y5 y6 y7 y8 y9 y10 y11 y12 y13 y14 y15 y16 : Sl), e = [.un, .deck MB, .dat (.int (i : Int)), .dat (boardD (m : Int) cs), XSl p o (CG.upN m), y5, y6, y7, y8, y9, y10, y11, y12, y13, y14, y15, y16], ⟨rfl, _, _, _, _, _, _, _, _, _, _, _, _, rfl⟩, ?_, ?_⟩⟩
    · rintro j ns e tA hns ⟨rfl, y5, y6, y7, y8, y9, y10, y11, y12, y13, y14, y15, y16, rfl⟩ p2 o2 ho2
      have hp : PermN (m : Int) ns := by
        have hm := List.mem_of_getElem? hns
        simp only [List.mem_cons, List.not_mem_nil, or_false] at hm
        rcases hm with rfl | rfl | rfl
        · exact hν
        · exact pn_up
        · exact pn_rev pn_up
      unfold boardD
      have N := names_of (by omega) hp
      have ln := N.ln
      have oks : ∀ c ∈ cs, c.Ok (ns.length : Int) := fun c hc => by rw [ln]; exact hcs c hc
      simp_all only [b_law_0b2b0]
      simp only [q_rdX ho2]
      refine ⟨shx_two hp (by omega) (by omega) hcs (by omega), ?_⟩
      generalize hz : (PyData.list [PyData.tuple [PyData.int (m : Int), rowsD cs], PyData.tuple (List.map PyData.int ns)]).shown = z
      unfold rowsD
      simp_all only [b_law_0b2b1]
      refine ⟨fun u e s => s = tA ∧ ∃ (y8 y9 y10 y11 y12 y13 y14 y15 y16 : Sl), e = [.un, .deck MB, .dat (.int (i : Int)), .dat (boardD (m : Int) cs), XSl p o (CG.upN m), XSl p2 o2 ns, .dat (.str z), .dat (rowsD ((cs.take u).map (rnC ns))), y8, y9, y10, y11, y12, y13, y14, y15, y16], ⟨rfl, _, _, _, _, _, _, _, _, _, rfl⟩, ?_, ?_⟩
      · rintro u d e t' hd ⟨rfl, y8, y9, y10, y11, y12, y13, y14, y15, y16, rfl⟩
        rw [List.getElem?_map] at hd
        cases hq : cs[u]? with
        | none => rw [hq] at hd; cases hd
        | some c =>
          rw [hq] at hd
          cases hd
          have ko := oks c (List.mem_of_getElem? hq)
          unfold Ctr.d
          simp_all only []
          simp only [q_rdX ho2]
          refine atW_of (nf_at ko.s0 ko.s1).1 (atW_of (nf_at ko.t0 ko.t1).1 ?_)
          unfold rowsD
          rw [q_addT]
          have e5 : List.map Ctr.d (List.map (rnC ns) (List.take (u + 1) cs)) = List.map Ctr.d (List.map (rnC ns) (List.take u cs)) ++ [PyData.tuple [.int (nf ns c.s), .int (nf ns c.t), .int c.g, .int c.e]] := by
            rw [take_next hq, List.map_append, List.map_append]
            rfl
          rw [e5]
          exact ⟨by rw [List.length_map, List.length_map, List.length_take]; simp only [List.length_cons, List.length_nil]; omega, _, _, _, _, _, _, _, _, _, rfl⟩
      · rintro e t' ⟨rfl, y8, y9, y10, y11, y12, y13, y14, y15, y16, rfl⟩
        rw [List.length_map, List.take_length]
        unfold boardD
        simp_all only [b_law_0b2b2, b_law_0b2b3, p_ren, w_pP]
        refine ⟨by decide, fun i acc s => s = t' ∧ acc = List.replicate i (boardD (m : Int) (cs.map (rnC ns))), ⟨rfl, rfl⟩, ?_, ?_⟩
        · rintro i d acc s hd ⟨rfl, rfl⟩
          rw [q_rdX ho2]
          exact ⟨_, ⟨(m : Int), cs, ns, rfl, by omega, oks, rfl⟩, rfl, by rw [List.replicate_succ']⟩
        · rintro acc s ⟨rfl, rfl⟩
          have shs : Shx (.list [boardD (m : Int) (cs.map (rnC ns)), boardD (m : Int) (cs.map (rnC ns))]) := shx_bds (by omega) (by omega) (fun c hc => by
            obtain ⟨c0, h0, rfl⟩ := List.mem_map.mp hc
            exact prn_ok hp (hcs c0 h0)) (by rw [List.length_map]; omega)
          show (b_law_0b2b4 K).wp [.un, .deck MB, .dat (.int (i : Int)), .dat (boardD (m : Int) cs), XSl p o (CG.upN m), XSl p2 o2 ns, .dat (.str z), .dat (rowsD (cs.map (rnC ns))), y8, y9, y10, y11, .dat (boardD (m : Int) (cs.map (rnC ns))), .dat (.list [boardD (m : Int) (cs.map (rnC ns)), boardD (m : Int) (cs.map (rnC ns))]), y14, y15, y16] _ _
          simp_all only [b_law_0b2b4, p_same, w_pP]
          simp only [q_rdX ho2]
          refine ⟨_, ⟨_, rfl, shs, rfl⟩, ?_⟩
          simp_all only []
          refine ⟨shx_two hp (by omega) (by omega) hcs (by omega), ?_⟩
          rw [show (PyData.list [boardD (m : Int) cs, PyData.tuple (List.map PyData.int ns)]).shown = z from hz, decide_eq_true rfl]
          simp_all only [b_law_0b2b5]
          simp only [q_rdX ho]
          have lb : (bkN (m : Int) ns).length = m := by unfold bkN; rw [List.length_map, up_len, Int.toNat_natCast]
          refine ⟨by rw [List.length_map, up_len, Int.toNat_natCast]; omega, fun i acc t' => t' = s ∧ acc = ((bkN (m : Int) ns).take i).map PyData.int, ⟨rfl, rfl⟩, ?_, ?_⟩
          · rintro i d acc t' hd ⟨rfl, rfl⟩
            rw [q_rdX ho2]
            have il : i < m := by
              have := (List.getElem?_eq_some_iff.mp hd).1
              rw [List.length_map, up_len, Int.toNat_natCast] at this
              exact this
            have eu : (CG.upN (m : Int))[i]? = some (i : Int) := up_get (by rw [Int.toNat_natCast]; exact il)
            rw [List.getElem?_map, eu] at hd
            cases hd
            have eb : (bkN (m : Int) ns)[i]? = some ((ns.idxOf (i : Int) : Nat) : Int) := by
              unfold bkN
              rw [List.getElem?_map, eu]
              rfl
            exact ⟨pn_mem hp (by omega) (by omega), rfl, by rw [take_next eb, List.map_append]; rfl⟩
          · rintro acc t' ⟨rfl, rfl⟩
            rw [List.length_map, up_len, Int.toNat_natCast, List.take_of_length_le (Nat.le_of_eq lb)]
            simp_all only [b_law_0b2b6, p_ren, w_pP]
            refine ⟨_, ⟨(m : Int), cs.map (rnC ns), bkN (m : Int) ns, rfl, by rw [List.length_map]; omega, fun c hc => by
              obtain ⟨c0, h0, rfl⟩ := List.mem_map.mp hc
              rw [lb]
              exact prn_ok hp (hcs c0 h0), rfl⟩, ?_⟩
            rw [rnC_map hp hcs]
            refine neT (pl_board (k := (m : Int)) (cs := cs) |>.mono (by decide)) (pl_board (k := (m : Int)) (cs := cs) |>.mono (by decide)) ?_
            have ev : PyData.eqv (PyData.tuple [PyData.int (m : Int), rowsD cs]) (PyData.tuple [PyData.int (m : Int), rowsD cs]) = true := eqv_self (pl_board (k := (m : Int)) (cs := cs))
            rw [ev]
            show unB (PyData.bool (!true)) _
            simp_all only []
            exact ⟨_, _, _, _, _, _, _, _, _, _, _, _, rfl⟩
    · rintro e t' ⟨rfl, y5, y6, y7, y8, y9, y10, y11, y12, y13, y14, y15, y16, rfl⟩
      unfold boardD
      simp_all only [b_law_0b3, p_ren, w_pP]
      simp only [q_rdX ho]
      have shb : Shx (boardD (m : Int) cs) := .inl (sm_board hcs (by omega) (by omega) (by omega) |>.mono (by decide) (by decide))
      refine ⟨_, ⟨(m : Int), cs, CG.upN m, rfl, by omega, fun c hc => by rw [up_len, Int.toNat_natCast]; exact hcs c hc, rfl⟩, ?_⟩
      rw [rnU_map hcs]
      refine ⟨shb, shb, ?_⟩
      unfold boardD
      rw [decide_eq_true rfl]
      refine ⟨by omega, _, _, _, _, _, _, _, _, _, _, _, _, _, _, _, rfl⟩
  · rintro e t' ⟨ht, y2, y3, y4, y5, y6, y7, y8, y9, y10, y11, y12, y13, y14, y15, y16, rfl⟩
    simp_all only [b_law_1]
end
section
theorem all_mk {l : PySem.W.OpenLaw} {w : World} {K : PySem.W.Frag} {h : Heap} {mg : Str → Option Value} {fa f1 f2 f3 f4 f5 f6 f7 f8 f9 : Addr} (X : K.In h) (G : h.Ns mainGlobals mg) (hfa : mg "law" = some (.ref fa))
    {od1 an1 od2 an2 od3 an3 od4 an4 od5 an5 od6 an6 od7 an7 od8 an8 od9 an9 : Option Addr} {sl1 sl2 sl3 sl4 sl5 sl6 sl7 sl8 sl9 : Array (Option Value)}
    {oc1 kV1 dc1 pm1 cd1 ct1 oc2 kV2 dc2 pm2 cd2 ct2 oc3 kV3 dc3 pm3 cd3 ct3 oc4 kV4 dc4 pm4 cd4 ct4 oc5 kV5 dc5 pm5 cd5 ct5 oc6 kV6 dc6 pm6 cd6 ct6 oc7 kV7 dc7 pm7 cd7 ct7 oc8 kV8 dc8 pm8 cd8 ct8 oc9 kV9 dc9 pm9 cd9 ct9 : Value}
    (a1 : PySem.W.nsIn K mainGlobals "_law_deck" = some (some (.ref f1)))
    (l1 : K.lookup f1 = some ⟨oc1, od1, .func (PySem.W.fnOf "_law_deck" "_law_deck" (defArgs sDeck) (defBody sDeck) (defScope sDeck) .none kV1 dc1 pm1 an1 cd1 ct1), sl1⟩)
    (c1 : PySem.W.codeIn K cd1 "_law_deck" = true) (k1 : PySem.W.keepIn K (.ref f1) = true)
    (a2 : PySem.W.nsIn K mainGlobals "_law_draw" = some (some (.ref f2)))
    (l2 : K.lookup f2 = some ⟨oc2, od2, .func (PySem.W.fnOf "_law_draw" "_law_draw" (defArgs sDraw) (defBody sDraw) (defScope sDraw) .none kV2 dc2 pm2 an2 cd2 ct2), sl2⟩)
    (c2 : PySem.W.codeIn K cd2 "_law_draw" = true) (k2 : PySem.W.keepIn K (.ref f2) = true)
    (a3 : PySem.W.nsIn K mainGlobals "_law_counter" = some (some (.ref f3)))
    (l3 : K.lookup f3 = some ⟨oc3, od3, .func (PySem.W.fnOf "_law_counter" "_law_counter" (defArgs sCounter) (defBody sCounter) (defScope sCounter) .none kV3 dc3 pm3 an3 cd3 ct3), sl3⟩)
    (c3 : PySem.W.codeIn K cd3 "_law_counter" = true) (k3 : PySem.W.keepIn K (.ref f3) = true)
    (a4 : PySem.W.nsIn K mainGlobals "_law_board" = some (some (.ref f4)))
    (l4 : K.lookup f4 = some ⟨oc4, od4, .func (PySem.W.fnOf "_law_board" "_law_board" (defArgs sBoard) (defBody sBoard) (defScope sBoard) .none kV4 dc4 pm4 an4 cd4 ct4), sl4⟩)
    (c4 : PySem.W.codeIn K cd4 "_law_board" = true) (k4 : PySem.W.keepIn K (.ref f4) = true)
    (a5 : PySem.W.nsIn K mainGlobals "_law_names" = some (some (.ref f5)))
    (l5 : K.lookup f5 = some ⟨oc5, od5, .func (PySem.W.fnOf "_law_names" "_law_names" (defArgs sNames) (defBody sNames) (defScope sNames) .none kV5 dc5 pm5 an5 cd5 ct5), sl5⟩)
    (c5 : PySem.W.codeIn K cd5 "_law_names" = true) (k5 : PySem.W.keepIn K (.ref f5) = true)
    (a6 : PySem.W.nsIn K mainGlobals "_law_same" = some (some (.ref f6)))
    (l6 : K.lookup f6 = some ⟨oc6, od6, .func (PySem.W.fnOf "_law_same" "_law_same" (defArgs sSame) (defBody sSame) (defScope sSame) .none kV6 dc6 pm6 an6 cd6 ct6), sl6⟩)
    (c6 : PySem.W.codeIn K cd6 "_law_same" = true) (k6 : PySem.W.keepIn K (.ref f6) = true)
    (a7 : PySem.W.nsIn K mainGlobals "renamed_counters" = some (some (.ref f7)))
    (l7 : K.lookup f7 = some ⟨oc7, od7, .func (PySem.W.fnOf "renamed_counters" "renamed_counters" (defArgs sPRenamed_counters) (defBody sPRenamed_counters) (defScope sPRenamed_counters) .none kV7 dc7 pm7 an7 cd7 ct7), sl7⟩)
    (c7 : PySem.W.codeIn K cd7 "renamed_counters" = true) (k7 : PySem.W.keepIn K (.ref f7) = true)
    (a8 : PySem.W.nsIn K mainGlobals "renamed" = some (some (.ref f8)))
    (l8 : K.lookup f8 = some ⟨oc8, od8, .func (PySem.W.fnOf "renamed" "renamed" (defArgs sPRenamed) (defBody sPRenamed) (defScope sPRenamed) .none kV8 dc8 pm8 an8 cd8 ct8), sl8⟩)
    (c8 : PySem.W.codeIn K cd8 "renamed" = true) (k8 : PySem.W.keepIn K (.ref f8) = true)
    (a9 : PySem.W.nsIn K mainGlobals "law" = some (some (.ref f9)))
    (l9 : K.lookup f9 = some ⟨oc9, od9, .func (PySem.W.fnOf "law" "law" (defArgs sLaw) (defBody sLaw) (defScope sLaw) .none kV9 dc9 pm9 an9 cd9 ct9), sl9⟩)
    (c9 : PySem.W.codeIn K cd9 "law" = true) (k9 : PySem.W.keepIn K (.ref f9) = true)
    (z_len : PySem.W.nsIn K mainGlobals "len" = some none)
    (z_abs : PySem.W.nsIn K mainGlobals "abs" = some none)
    (z_range : PySem.W.nsIn K mainGlobals "range" = some none)
    (z_repr : PySem.W.nsIn K mainGlobals "repr" = some none)
    (z_min : PySem.W.nsIn K mainGlobals "min" = some none)
    (z_max : PySem.W.nsIn K mainGlobals "max" = some none)
    (z_int : PySem.W.nsIn K mainGlobals "int" = some none)
    (z_tuple : PySem.W.nsIn K mainGlobals "tuple" = some none)
    (z_list : PySem.W.nsIn K mainGlobals "list" = some none)
    (z_bool : PySem.W.nsIn K mainGlobals "bool" = some none)
    (z_isinstance : PySem.W.nsIn K mainGlobals "isinstance" = some none)
    (z_enumerate : PySem.W.nsIn K mainGlobals "enumerate" = some none) :
    ∃ fd : FuncData, (∀ (s : Shared) (v : Value), BindsTo s fd ⟨[v], []⟩ [("_law_script", v)]) ∧ ∀ base : Heap, K.In base → base.Ns mainGlobals mg → FnG l.prog w K mg base CX0 4 fa fd ["_law_script"] (spLaw K) := by
  have e := hfa.symm.trans (PySem.W.mg_of X G a9)
  cases e
  have F1 := fun_mk (st := sDeck) l1 c1 k1
  have T1 : Has K mg "_law_deck" sDeck ["_law_script"] f1 _ := ⟨F1, PySem.W.mg_of X G a1, F1.binds fun _ _ _ _ _ _ us hl => match us, hl with | [_], _ => rfl⟩
  have F2 := fun_mk (st := sDraw) l2 c2 k2
  have T2 : Has K mg "_law_draw" sDraw ["_law_deck_here", "_law_limit"] f2 _ := ⟨F2, PySem.W.mg_of X G a2, F2.binds fun _ _ _ _ _ _ us hl => match us, hl with | [_, _], _ => rfl⟩
  have F3 := fun_mk (st := sCounter) l3 c3 k3
  have T3 : Has K mg "_law_counter" sCounter ["_law_deck_here", "_law_kinds"] f3 _ := ⟨F3, PySem.W.mg_of X G a3, F3.binds fun _ _ _ _ _ _ us hl => match us, hl with | [_, _], _ => rfl⟩
  have F4 := fun_mk (st := sBoard) l4 c4 k4
  have T4 : Has K mg "_law_board" sBoard ["_law_deck_here", "_law_most", "_law_many"] f4 _ := ⟨F4, PySem.W.mg_of X G a4, F4.binds fun _ _ _ _ _ _ us hl => match us, hl with | [_, _, _], _ => rfl⟩
  have F5 := fun_mk (st := sNames) l5 c5 k5
  have T5 : Has K mg "_law_names" sNames ["_law_deck_here", "_law_count"] f5 _ := ⟨F5, PySem.W.mg_of X G a5, F5.binds fun _ _ _ _ _ _ us hl => match us, hl with | [_, _], _ => rfl⟩
  have F6 := fun_mk (st := sSame) l6 c6 k6
  have T6 : Has K mg "_law_same" sSame ["_law_value", "_law_due"] f6 _ := ⟨F6, PySem.W.mg_of X G a6, F6.binds fun _ _ _ _ _ _ us hl => match us, hl with | [_, _], _ => rfl⟩
  have F7 := fun_mk (st := sPRenamed_counters) l7 c7 k7
  have T7 : Has K mg "renamed_counters" sPRenamed_counters ["counters", "names"] f7 _ := ⟨F7, PySem.W.mg_of X G a7, F7.binds fun _ _ _ _ _ _ us hl => match us, hl with | [_, _], _ => rfl⟩
  have F8 := fun_mk (st := sPRenamed) l8 c8 k8
  have T8 : Has K mg "renamed" sPRenamed ["board", "names"] f8 _ := ⟨F8, PySem.W.mg_of X G a8, F8.binds fun _ _ _ _ _ _ us hl => match us, hl with | [_, _], _ => rfl⟩
  have F9 := fun_mk (st := sLaw) l9 c9 k9
  have T9 : Has K mg "law" sLaw ["_law_script"] _ _ := ⟨F9, PySem.W.mg_of X G a9, F9.binds fun _ _ _ _ _ _ us hl => match us, hl with | [_], _ => rfl⟩
  have T : Bz mg := ⟨PySem.W.mg_none_of X G z_len, PySem.W.mg_none_of X G z_abs, PySem.W.mg_none_of X G z_range, PySem.W.mg_none_of X G z_repr, PySem.W.mg_none_of X G z_min, PySem.W.mg_none_of X G z_max, PySem.W.mg_none_of X G z_int, PySem.W.mg_none_of X G z_tuple, PySem.W.mg_none_of X G z_list, PySem.W.mg_none_of X G z_bool, PySem.W.mg_none_of X G z_isinstance, PySem.W.mg_none_of X G z_enumerate⟩
  exact ⟨PySem.W.fnOf "law" "law" (defArgs sLaw) (defBody sLaw) (defScope sLaw) .none kV9 dc9 pm9 an9 cd9 ct9, fun s v => .of_eq rfl, fun base _ _ => by
    have G1 := ok_deck (P := l.prog) (w := w) (mg := mg) (base := base) T1 T
    have G2 := ok_draw (P := l.prog) (w := w) (mg := mg) (base := base) T2 T
    have Gco := ok_counter (P := l.prog) (w := w) (mg := mg) (base := base) T3 T T2 G2
    have Gbo := ok_board (P := l.prog) (w := w) (mg := mg) (base := base) T4 T T2 G2 T3 Gco
    have Gna := ok_names (P := l.prog) (w := w) (mg := mg) (base := base) T5 T T2 G2
    have Gsa := ok_same (P := l.prog) (w := w) (mg := mg) (base := base) T6 T
    have Grc := ok_rnc (P := l.prog) (w := w) (mg := mg) (base := base) T7 T
    have Grn := ok_ren (P := l.prog) (w := w) (mg := mg) (base := base) T8 T T7 Grc
    exact ok_law T9 T T1 G1 T4 Gbo T5 Gna T8 Grn T6 Gsa⟩
end
section
set_option maxHeartbeats 0 in
theorem hFacts {l : PySem.W.OpenLaw} {w : World} {K : PySem.W.Frag} {h : Heap} {mg : Str → Option Value} {fa : Addr} (X : K.In h) (G : h.Ns mainGlobals mg) (hfa : mg "law" = some (.ref fa)) (c : HSays hFa hFn K) :
    ∃ fd : FuncData, (∀ (s : Shared) (v : Value), BindsTo s fd ⟨[v], []⟩ [("_law_script", v)]) ∧ ∀ base : Heap, K.In base → base.Ns mainGlobals mg → FnG l.prog w K mg base CX0 4 fa fd ["_law_script"] (spLaw K) := by
  obtain ⟨oc_1, od_1, sl_1, kV_1, dc_1, pm_1, an_1, cd_1, ct_1, l_1, c_1⟩ := c.def_ 0 rfl
  obtain ⟨oc_2, od_2, sl_2, kV_2, dc_2, pm_2, an_2, cd_2, ct_2, l_2, c_2⟩ := c.def_ 1 rfl
  obtain ⟨oc_3, od_3, sl_3, kV_3, dc_3, pm_3, an_3, cd_3, ct_3, l_3, c_3⟩ := c.def_ 2 rfl
  obtain ⟨oc_4, od_4, sl_4, kV_4, dc_4, pm_4, an_4, cd_4, ct_4, l_4, c_4⟩ := c.def_ 3 rfl
  obtain ⟨oc_5, od_5, sl_5, kV_5, dc_5, pm_5, an_5, cd_5, ct_5, l_5, c_5⟩ := c.def_ 4 rfl
  obtain ⟨oc_6, od_6, sl_6, kV_6, dc_6, pm_6, an_6, cd_6, ct_6, l_6, c_6⟩ := c.def_ 5 rfl
  obtain ⟨oc_7, od_7, sl_7, kV_7, dc_7, pm_7, an_7, cd_7, ct_7, l_7, c_7⟩ := c.def_ 6 rfl
  obtain ⟨oc_8, od_8, sl_8, kV_8, dc_8, pm_8, an_8, cd_8, ct_8, l_8, c_8⟩ := c.def_ 7 rfl
  obtain ⟨oc_9, od_9, sl_9, kV_9, dc_9, pm_9, an_9, cd_9, ct_9, l_9, c_9⟩ := c.def_ 8 rfl
  exact all_mk X G hfa (He.eqO_ok (c.fact 0 rfl)) l_1 c_1 (c.fact 1 rfl) (He.eqO_ok (c.fact 2 rfl)) l_2 c_2 (c.fact 3 rfl) (He.eqO_ok (c.fact 4 rfl)) l_3 c_3 (c.fact 5 rfl) (He.eqO_ok (c.fact 6 rfl)) l_4 c_4 (c.fact 7 rfl) (He.eqO_ok (c.fact 8 rfl)) l_5 c_5 (c.fact 9 rfl) (He.eqO_ok (c.fact 10 rfl)) l_6 c_6 (c.fact 11 rfl) (He.eqO_ok (c.fact 12 rfl)) l_7 c_7 (c.fact 13 rfl) (He.eqO_ok (c.fact 14 rfl)) l_8 c_8 (c.fact 15 rfl) (He.eqO_ok (c.fact 16 rfl)) l_9 c_9 (c.fact 17 rfl) (He.eqO_ok (c.fact 18 rfl)) (He.eqO_ok (c.fact 19 rfl)) (He.eqO_ok (c.fact 20 rfl)) (He.eqO_ok (c.fact 21 rfl)) (He.eqO_ok (c.fact 22 rfl)) (He.eqO_ok (c.fact 23 rfl)) (He.eqO_ok (c.fact 24 rfl)) (He.eqO_ok (c.fact 25 rfl)) (He.eqO_ok (c.fact 26 rfl)) (He.eqO_ok (c.fact 27 rfl)) (He.eqO_ok (c.fact 28 rfl)) (He.eqO_ok (c.fact 29 rfl))
end
end CG
open PySem PySem.W PySem.Calls PyProof.Rows
set_option maxRecDepth 100000 in
set_option maxHeartbeats 0 in
theorem PySem.Challenge.cw_coincounters_k04_kinds_renamed_holds : PySem.Challenge.rw_coincounters_k04_kinds_renamed.Holds := by
  w_on; o_law
  refine HandSHeadRun.head_any (r := OpenLaw.row PySem.Challenge.rw_coincounters_k04_kinds_renamed) (q := view (OpenLaw.row PySem.Challenge.rw_coincounters_k04_kinds_renamed).prog [10]) (H := CG.hHook 5 CG.hFa CG.hFn) (ob := fun s => CG.hObsG 5 CG.hFa CG.hFn (HandSHeadRun.getT s)) (M := 20000) (loose := CG.hNm) (d := HandSHeadRun.topDef (OpenLaw.row PySem.Challenge.rw_coincounters_k04_kinds_renamed).prog 10) (kwd := []) CG.hObs_eq
    (by kernel_rfl) (fun s => by kernel_rfl) CG.hRun (by kernel_rfl) (by kernel_rfl) (by kernel_rfl) (by rfl) (by first | assumption | decide +kernel) (by decide +kernel) ⟨rfl, rfl, rfl, rfl, rfl, by decide +kernel⟩ ?hw ?hc
  case hw => w_witness2
  case hc =>
    refine CG.walkH (l := PySem.Challenge.rw_coincounters_k04_kinds_renamed) (n := 63) (k := 4) (x := "_law_script") (cx := L2.CX0) rfl (by decide) (by kernel_rfl) ⟨rfl, by decide, by decide⟩ ?F (fun _ _ _ _ z => z)
    intro w mg fa h Y G hmg0
    obtain ⟨K, KX, c⟩ := Y
    have hmg : mg ("law" : PySem.Str) = some (.ref fa) := by
      have e : (HandSHeadRun.topDef (OpenLaw.row PySem.Challenge.rw_coincounters_k04_kinds_renamed).prog 10).name = ("law" : PySem.Str) := by kernel_rfl
      rw [← e]
      exact hmg0
    obtain ⟨fd, hb, hF⟩ := CG.hFacts (l := PySem.Challenge.rw_coincounters_k04_kinds_renamed) (w := w) KX G hmg c
    exact ⟨K, fd, CG.spLaw K, KX, hb, fun H a ns hl _ hS => ⟨a, ns, rfl, hS, fun _ => rfl⟩, hF⟩
